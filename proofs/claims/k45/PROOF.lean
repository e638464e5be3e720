import PyProof.Rows.All
import Wide.All
import OpenK.AllK
import Wide.FinOn
import Lean
import PyProof.EqAt
import PyProof.EqKinds
import PyProof.TupleCall
import PyProof.P3In
import PyProof.NeData
import KE.KMinKey
import PyProof.Rows.CallKwBuiltin
import PyProof.LayNew
import PyProof.EnumFor
import PyProof.EnumMake
import PyProof.EnumStmt
import KE.KRevIter
import KE.KRevSl
import PyProof.StationsW
import PyProof.RulesAs
import KE.KTryMore
import PyProof.Rows.TopTwo
import PyProof.NsDelKeeps
import PyProof.ExcArgsOwn
import KE.KIsAll
import PyProof.AutoListH
import PyProof.SetRoads
import PyProof.SetNew
import PyProof.ListRange
import PyProof.Rows.TupDisplay
import PyProof.Draws
import PyProof.ZipIter
import PyProof.TupleIter
import PyProof.AttrMissSeq
import KE.KDictOf
import PySem.Challenge.RW_waithands_k45_kept_or_broken
set_option Elab.async false
set_option linter.all false
set_option maxRecDepth 100000
section
open PySem PySem.Spec PyProof.Rows
abbrev aQ:=@wpAny_bind
abbrev bR:=@List.length_map
abbrev fJ:=@List.getD_eq_getElem?_getD
abbrev eO:=@Heap.get?_push_of_some
abbrev fM:=@List.getElem?_eq_getElem
abbrev bU:=@wpAny_pure
abbrev fP:=@List.length_append
abbrev je:=@lookup_relabel_local
abbrev gM:=@List.getElem?_map
abbrev bB:=@if_neg
abbrev bF:=@Nat.le_refl
abbrev aL:=@if_pos
abbrev b7:=@List.mem_cons
abbrev dM:=@Heap.get?_push_size
abbrev b_:=@Heap.lt_size
abbrev iQ:=@List.getElem?_eq_some_iff
abbrev fB:=@List.size_toArray
abbrev fU:=@List.mem_singleton
abbrev iY:=@List.mem_append_right
abbrev iM:=@List.mem_cons_of_mem
abbrev jm:=@List.mem_of_getElem?
abbrev jl:=@List.mem_cons_self
abbrev jk:=@Bool.false_eq_true
abbrev gY:=@decide_eq_false
abbrev gC:=@decide_eq_true
abbrev mX:=@Option.map_eq_some_iff
abbrev fK:=@Nat.ne_of_lt
abbrev jj:=@List.length_take
abbrev kI:=@Nat.lt_of_lt_of_le
abbrev kE:=@Bool.false_ne_true
abbrev jD:=@List.length_cons
abbrev l_:=@Array.length_toList
abbrev jQ:=@List.not_mem_nil
abbrev jC:=@List.map_append
abbrev fQ:=@Nat.zero_le
abbrev iK:=@List.mem_map
abbrev vM:=@List.getElem?_append_right
abbrev jP:=@Heap.size_push
abbrev gm:=@wpAny_mono
abbrev lZ:=@List.append_nil
abbrev ug:=@Heap.get?_update_other
abbrev yg:=@Array.getElem?_eq_some_iff
abbrev jB:=@Nat.le_of_lt
abbrev ji:=@wpAny_field
abbrev pC:=@List.take_length
abbrev oH:=@List.mem_append
abbrev rY:=@wpAny_Call_Name_kw
abbrev El:=@List.take_append_of_le_length
abbrev BL:=@List.getElem?_append_left
abbrev rW:=@Int.toNat_natCast
abbrev yf:=@Heap.get?_update_self
abbrev rT:=@List.lookup_cons
abbrev uf:=@wpAny_newObj_type
abbrev Ek:=@Array.getElem?_eq_getElem
abbrev qu:=@wpAny_seqItems
abbrev gW:=@congrArg
abbrev ue:=@List.all_eq_true
abbrev ye:=@List.length_zipWith
abbrev BK:=@List.length_replicate
abbrev oG:=@Nat.le_trans
abbrev vL:=@List.append_assoc
abbrev yd:=@of_decide_eq_false
abbrev rR:=@List.mem_range
abbrev vK:=@wpAny_call_entry
abbrev vJ:=@List.length_drop
abbrev yc:=@of_decide_eq_true
abbrev Ej:=@Array.getElem?_toList
abbrev rQ:=@wpAny_holding
abbrev Hv:=@Option.isSome_iff_exists
abbrev rP:=@Nat.lt_irrefl
abbrev Mf:=@Array.getD_eq_getD_getElem?
abbrev BJ:=@List.getElem_mem
abbrev Ei:=@Int.emod_lt_of_pos
abbrev Bx:=@Bool.and_eq_true
abbrev Eh:=@wpAny_truthy_bool
abbrev Ma:=@wpAny_callSpecial?_slot
abbrev L_:=@List.length_eq_zero_iff
abbrev vI:=@Nat.sub_self
abbrev LR:=@List.take_of_length_le
abbrev ud:=@wpAny_of_eq
abbrev x_:=@List.map_cons
abbrev uc:=@Int.le_refl
abbrev xZ:=@Bool.not_true
abbrev Bw:=@List.take_succ
abbrev LQ:=@List.getElem?_zipWith
abbrev Eg:=@Int.emod_nonneg
abbrev Hu:=@wpAny_pyIter_list
abbrev LC:=@Nat.pow_le_pow_right
abbrev Bv:=@wpAny_standAt
abbrev Lz:=@List.filterMap_cons
abbrev Qq:=@List.getElem?_cons_succ
abbrev Ly:=@wpAny_setField_rec
abbrev Lx:=@wpAny_pyIter_tuple
abbrev Bu:=@Nat.zero_add
abbrev Ht:=@wpAny_passesOwn
abbrev Hs:=@List.nil_append
abbrev Ef:=@Nat.add_assoc
abbrev Qp:=@List.mem_iff_getElem?
abbrev E_:=@List.getElem?_eq_none
abbrev zO:=@wpAny_setState_of
abbrev zN:=@Nat.lt_succ_of_lt
abbrev zM:=@List.drop_length
abbrev EY:=@List.replicate_succ
abbrev vO:=@List.map_take
abbrev zL:=@wpAny_specialOf
abbrev zK:=@wpAny_execs_nil
abbrev zH:=@Nat.min_eq_left
abbrev zE:=@List.forIn_cons
abbrev zy:=@Bool.eq_iff_iff
abbrev qw:=@wpAny_rule
abbrev Ez:=@List.getElem_range
abbrev Ey:=@List.getElem?_drop
abbrev zx:=@wpAny_tryCatch
abbrev zu:=@wpAny_setField
abbrev Ex:=@List.flatten_cons
abbrev JL:=@List.drop_of_length_le
abbrev JK:=@List.getElem?_toArray
abbrev Ew:=@wpAny_forIn_list
abbrev Eu:=@Nat.lt_succ_self
abbrev Et:=@List.ext_getElem
abbrev vN:=@wpAny_letGo
abbrev JH:=@List.mem_of_mem_take
abbrev Es:=@List.nodup_cons
abbrev JG:=@Heap.SameBut.update
abbrev zr:=@Nat.min_self
abbrev zq:=@Int.zero_add
abbrev JF:=@Array.forIn_toList
abbrev Qv:=@List.pairwise_iff_getElem
abbrev Qu:=@List.drop_eq_getElem_cons
abbrev JD:=@wpAny_pyIter_enum
abbrev JC:=@List.length_range
abbrev oV:=@Iff.rfl
abbrev Er:=@List.sum_cons
abbrev JB:=@Nat.mod_eq_of_lt
abbrev Jz:=@Nat.min_eq_right
abbrev Jy:=@Nat.le_add_right
abbrev Qt:=@List.getElem?_replicate
abbrev Qs:=@wpAny_pyIter_rangeiter
abbrev Ep:=@Nat.pow_succ
abbrev Eo:=@Nat.ne_of_gt
abbrev Em:=@Int.sub_zero
end
namespace L2
open PySem PySem.Spec PyProof.Rows
abbrev Key:=Sum Int Str
def We:Key->Value->Bool
 | .inl k,v=>Value.isInt k v
 | .inr x,v=>Value.isStrOf x v
def acj (w:World):Key->Int
 | .inl k=>hashInt k
 | .inr x=>hashStr w x
theorem dF:∀{k:Key} {v:Value},We k v=true->(∃i t,k=Sum.inl i/\v=Value.int i t)\/(∃x t,k=Sum.inr x/\v=Value.str x t)
 | .inl i,v,h=>by
  obtain⟨t,e⟩:=Value.isInt_shape (k:=i) (v:=v) h
  exact .inl ⟨i,t,rfl,e⟩
 | .inr x,v,h=>by
  obtain⟨t,e⟩:=Value.isStrOf_shape (x:=x) (v:=v) h
  exact .inr ⟨x,t,rfl,e⟩
theorem X6 (a b:Int):decide ((Sum.inl a:Key)=Sum.inl b)=(a==b):=by
 by_cases e:a=b
 ·subst e; simp
 ·have h:¬(Sum.inl a:Key)=Sum.inl b:=fun q=>e (Sum.inl.inj q)
  rw[gY h]
  exact(beq_eq_false_iff_ne.mpr e).symm
theorem X3 (a b:Str):decide ((Sum.inr a:Key)=Sum.inr b)=decide (a=b):=by
 by_cases e:a=b
 ·subst e; simp
 ·have h:¬(Sum.inr a:Key)=Sum.inr b:=fun q=>e (Sum.inr.inj q)
  rw[gY h,gY e]
theorem X5 (a:Int) (b:Str):decide ((Sum.inl a:Key)=Sum.inr b)=false:=gY (fun q=>nomatch q)
theorem X4 (a:Str) (b:Int):decide ((Sum.inr a:Key)=Sum.inl b)=false:=gY (fun q=>nomatch q)
def J3 (prog:Program) (w:World):PySem.KeyKind prog w Key where
 is:=We
 hash:=acj w
 inj:=fun v a b ha hb=>by
  rcases dF ha with⟨i,t,rfl,rfl⟩ | ⟨x,t,rfl,rfl⟩
  ·rcases dF hb with⟨j,u,rfl,e⟩ | ⟨y,u,rfl,e⟩
   ·injection e with e1 _; rw[e1]
   ·exact nomatch e
  ·rcases dF hb with⟨j,u,rfl,e⟩ | ⟨y,u,rfl,e⟩
   ·exact nomatch e
   ·injection e with e1 _; rw[e1]
 byValue:=fun k v h=>by
  rcases dF h with⟨i,t,rfl,rfl⟩ | ⟨x,t,rfl,rfl⟩ <;> rfl
 pyHash:=fun hv h=>by
  rcases dF hv with⟨i,t,rfl,rfl⟩ | ⟨x,t,rfl,rfl⟩
  ·exact wpAny_pyHash_int h
  ·exact wpAny_pyHash_str h
 eqBool:=fun hu hv h=>by
  rcases dF hu with⟨i,t,rfl,rfl⟩ | ⟨x,t,rfl,rfl⟩
  ·rcases dF hv with⟨j,u,rfl,rfl⟩ | ⟨y,u,rfl,rfl⟩
   ·rw[X6] at h; exact wpAny_eqBool_int h
   ·rw[X5] at h; exact SeqAt.EqAt.int_str i t y u _ _ _ _ h
  ·rcases dF hv with⟨j,u,rfl,rfl⟩ | ⟨y,u,rfl,rfl⟩
   ·rw[X4] at h; exact SeqAt.EqAt.str_int x t j u _ _ _ _ h
   ·rw[X3] at h; exact wpAny_eqBool_str h
 «strs»:=fun k x t v h=>by
  rcases dF h with⟨i,u,rfl,e⟩ | ⟨y,u,rfl,e⟩
  ·exact nomatch e
  ·injection e with e1 _
   subst e1
   cases v <;> rfl
inductive V where
 | non | bl (b:Bool) | int (i:Int) | str (x:Str) | Ol (b:Array UInt8) | flt (b:UInt64) | ref (a:Addr) | ty (n:String)
 deriving DecidableEq
def RelV:V->Value->Prop
 | .non,u=>u=Value.none
 | .bl b,u=>u=Value.bool b
 | .int i,u=>∃t,u=Value.int i t
 | .str x,u=>∃t,u=Value.str x t
 | .Ol b,u=>∃t,u=Value.bytes b t
 | .flt b,u=>∃t,u=Value.float b t
 | .ref a,u=>u=Value.ref a
 | .ty n,u=>u=Value.type n
abbrev Vals:List V->List Value->Prop:=Paired RelV
theorem Vals.length {xs:List V} {us:List Value} (r:Vals xs us):xs.length=us.length:=Paired.length r
theorem Vals.get:∀{xs:List V} {us:List Value} {i:Nat} {x:V},Vals xs us->xs[i]?=some x->∃u,us[i]?=some u/\RelV x u
 | _,_,_,_,.nil,e=>by simp at e
 | _,_,0,_,.cons r _,e=>by simp at e; subst e; exact⟨_,rfl,r⟩
 | _,_,i+1,x,.cons _ t,e=>by
  obtain⟨u,h1,h2⟩:=Vals.get (i:=i) (x:=x) t (by simpa using e)
  exact⟨u,by simpa using h1,h2⟩
theorem Vals.set {x:V} {u:Value} (r:RelV x u):∀{xs:List V} {us:List Value} (i:Nat),Vals xs us->Vals (xs.set i x) (us.set i u)
 | _,_,_,.nil=>.nil
 | _,_,0,.cons _ t=>.cons r t
 | _,_,i+1,.cons q t=>.cons q (Vals.set r i t)
theorem Vals.append:∀{xs ys:List V} {us ws:List Value},Vals xs us->Vals ys ws->Vals (xs++ys) (us++ws)
 | _,_,_,_,.nil,s=>s
 | _,_,_,_,.cons r t,s=>.cons r (Vals.append t s)
theorem Vals.take:∀{xs:List V} {us:List Value} (n:Nat),Vals xs us->Vals (xs.take n) (us.take n)
 | _,_,0,_=>.nil
 | _,_,_+1,.nil=>.nil
 | _,_,n+1,.cons r t=>.cons r (Vals.take n t)
theorem Vals.drop:∀{xs:List V} {us:List Value} (n:Nat),Vals xs us->Vals (xs.drop n) (us.drop n)
 | _,_,0,r=>r
 | _,_,_+1,.nil=>.nil
 | _,_,n+1,.cons _ t=>Vals.drop n t
def Yt:Option V->Option Value->Prop
 | some v,some u=>RelV v u
 | none,none=>True
 | _,_=>False
def KV {κ:Type}:List (κ×V)->List (κ×Value)->Prop:=Paired fun(p:κ×V) (q:κ×Value)=>p.1=q.1/\RelV p.2 q.2
def kV:Key->V
 | .inl i=>.int i
 | .inr x=>.str x
inductive HO where
 | lst (xs:List V)
 | tup (xs:List V)
 | dK (kvs:List (Key×V)) | dT (kvs:List (List Key×V))
 | set (S:Int->Bool) (n:Nat)
 | ins (C dx:Addr) (fs:List (Str×V))
 | own (x:Addr)
 | xd (fs:List (Str×V))
 | met (f x:Addr)
 | Tv (lo hi:Int)
 | Dn (o:Obj) (u:HO)
 | Vz (ps:Array Value)
 | ext (φ:Heap->Prop)
abbrev Hp:=Addr->Option HO
def upd (H:Hp) (a:Addr) (o:HO):Hp:=fun b=>if b=a then some o else H b
theorem az {H:Hp} {a:Addr} {o:HO}:upd H a o a=some o:=by unfold upd; rw[aL rfl]
theorem aP {H:Hp} {a b:Addr} {o:HO} (h:b≠a):upd H a o b=H b:=by unfold upd; rw[bB h]
theorem bN {H:Hp} {a b:Addr} {o:HO} (h:H a=some o) (h':H b=none):a≠b:=by
 intro e; subst e; rw[h] at h'; cases h'
section
variable (P:Program) (w:World)
def cz (H:Hp) (h:Heap) (a:Addr):HO->Prop
 | .lst xs=>xs.length<=sizeLine/\∃(its:List Value) (n:Nat),Vals xs its/\h.get? a=some { cls:=.type "list",data:=.seq its.toArray n }
 | .tup xs=>xs.length<=sizeLine/\∃its:List Value,Vals xs its/\IsTup h a its.toArray
 | .dK kvs=>kvs.length<=sizeLine/\(a==sysModules)=false/\∃vs,KV kvs vs/\h.DictOf (J3 P w) a vs
 | .dT kvs=>kvs.length<=sizeLine/\(a==sysModules)=false/\∃xs:List (List Key×Addr×Value),
   Paired (fun(p:List Key×V) (q:List Key×Addr×Value)=>p.1=q.1/\H q.2.1=some (.tup (p.1.map kV))/\RelV p.2 q.2.2) kvs xs /\
   ∃o es ep,h.get? a=some o/\o.ExactDict/\o.data=.dict es ep/\es.toList=xs.map (entryOfKey (tupleKind (J3 P w)))/\(xs.map (·.1)).Nodup
 | .set S n=>h.SetOf (intKind P w) a S n
 | .ins C dx fs=>H dx=some (.own a)/\fs.length<=1000/\dx≠a/\h.get? a=some (PySem.W.instObj C dx) /\
   ∃mA,h.Ns1 dx mA/\(∀f,Yt (fs.lookup f) (mA f))/\PySem.Within mA (fs.map (·.1))
 | .own _=>∃o,h.get? a=some o
 | .xd fs=>∃mA,h.Ns1 a mA/\∀f,Yt (fs.lookup f) (mA f)
 | .Tv lo hi=>∃t u v,h.get? a=some { cls:=.type "range",data:=.fields #[.int lo t,.int hi u,.int 1 v] }
 | .Dn o u=>h.get? a=some o/\cz H h a u
 | .Vz ps=>h.get? a=some { cls:=.none,data:=.fields ps }
 | .met f x=>h.get? a=some (PySem.W.methodObj (.ref f) (.ref x))
 | .ext φ=>φ h/\(∃o,h.get? a=some o)/\∀h1 h2:Heap,φ h1->(∀o,h1.get? a=some o->h2.get? a=some o)->φ h2
def lW (H:Hp) (h:Heap):Prop:=∀a o,H a=some o->cz P w H h a o
end
section
variable {P:Program} {w:World} {H H':Hp} {h h':Heap} {a:Addr} {o:HO}
theorem cz.lt (x:cz P w H h a o):a<h.objs.size:=by
 cases o with
 | lst xs=>obtain⟨_,_,_,_,e⟩:=x; exact b_ e
 | tup xs=>obtain⟨_,_,_,p⟩:=x; exact p.lt
 | dK kvs=>obtain⟨_,_,_,_,o,_,_,e,_⟩:=x; exact b_ e
 | dT kvs=>obtain⟨_,_,_,_,o,_,_,e,_⟩:=x; exact b_ e
 | set S n=>obtain⟨o,_,_,_,e,_⟩:=x; exact b_ e
 | ins C dx fs=>obtain⟨_,_,_,e,_⟩:=x; exact b_ e
 | own y=>obtain⟨_,e⟩:=x; exact b_ e
 | xd fs=>obtain⟨_,⟨_,_,_,e,_⟩,_⟩:=x; exact b_ e
 | Tv lo hi=>obtain⟨_,_,_,e⟩:=x; exact b_ e
 | Dn ob u=>obtain⟨e,_⟩:=x; exact b_ e
 | Vz ps=>exact b_ (show h.get? a=some _ from x)
 | met f y=>exact b_ (show h.get? a=some _ from x)
 | ext φ=>obtain⟨_,⟨_,e⟩,_⟩:=x; exact b_ e
theorem Paired.aal {α β:Type} {F G:α->β->Prop}:∀{l₁:List α} {l₂:List β},Paired F l₁ l₂->(∀a b,F a b->G a b)->Paired G l₁ l₂
 | _,_,.nil,_=>.nil
 | _,_,.cons r t,f=>.cons (f _ _ r) (Paired.aal t f)
theorem cz.stay (x:cz P w H h a o) (k:∀b u,(b=a\/H b=some (.own a))->h.get? b=some u->h'.get? b=some u)
  (ho:∀b,H b=some (.own a)->H' b=some (.own a)) (ht:∀b xs,H b=some (.tup xs)->H' b=some (.tup xs)):cz P w H' h' a o:=by
 induction o with
 | lst xs=>obtain⟨z,its,n,r,e⟩:=x; exact⟨z,its,n,r,k _ _ (.inl rfl) e⟩
 | tup xs=>obtain⟨z,its,r,ob,e,c⟩:=x; exact⟨z,its,r,ob,k _ _ (.inl rfl) e,c⟩
 | dK kvs=>obtain⟨z,y,vs,r,ob,es,ep,e,c⟩:=x; exact⟨z,y,vs,r,ob,es,ep,k _ _ (.inl rfl) e,c⟩
 | dT kvs=>
  obtain⟨z,y,xs,r,ob,es,ep,e,c⟩:=x
  exact⟨z,y,xs,Paired.aal r fun p q z=>⟨z.1,ht _ _ z.2.1,z.2.2⟩,ob,es,ep,k _ _ (.inl rfl) e,c⟩
 | set S n=>obtain⟨ob,es,ep,t,e,c⟩:=x; exact⟨ob,es,ep,t,k _ _ (.inl rfl) e,c⟩
 | ins C dx fs=>
  obtain⟨d,z,ne,e,mA,⟨od,es,ep,e2,c⟩,r⟩:=x
  exact⟨ho _ d,z,ne,k _ _ (.inl rfl) e,mA,⟨od,es,ep,k _ _ (.inr d) e2,c⟩,r⟩
 | own y=>obtain⟨ob,e⟩:=x; exact⟨ob,k _ _ (.inl rfl) e⟩
 | xd fs=>obtain⟨mA,⟨od,es,ep,e,c⟩,r⟩:=x; exact⟨mA,⟨od,es,ep,k _ _ (.inl rfl) e,c⟩,r⟩
 | Tv lo hi=>obtain⟨t,u,v,e⟩:=x; exact⟨t,u,v,k _ _ (.inl rfl) e⟩
 | Dn ob u ih=>obtain⟨e,q⟩:=x; exact⟨k _ _ (.inl rfl) e,ih q⟩
 | Vz ps=>
  have e:h.get? a=some { cls:=.none,data:=.fields ps }:=x
  show h'.get? a=some { cls:=.none,data:=.fields ps }
  exact k a _ (.inl rfl) e
 | met f y=>
  have e:h.get? a=some (PySem.W.methodObj (.ref f) (.ref y)):=x
  show h'.get? a=some (PySem.W.methodObj (.ref f) (.ref y))
  exact k a _ (.inl rfl) e
 | ext φ=>obtain⟨p,⟨o,e⟩,st⟩:=x; exact⟨st _ _ p fun o q=>k _ _ (.inl rfl) q,⟨o,k _ _ (.inl rfl) e⟩,st⟩
theorem lW.lt (x:lW P w H h) (e:H a=some o):a<h.objs.size:=(x a o e).lt
theorem lW.fresh (x:lW P w H h) (e:h.objs.size<=a):H a=none:=by
 cases q:H a with
 | none=>rfl
 | some u=>exact absurd (kI (x.lt q) e) (rP _)
theorem lW.kept (x:lW P w H h) (k:∀b u,h.get? b=some u->h'.get? b=some u):lW P w H h':=fun a o e=>
 (x a o e).stay (fun b u _ q=>k b u q) (fun _ q=>q) fun _ _ q=>q
theorem lW.laid (x:lW P w H h) (k:∀b u,h.get? b=some u->h'.get? b=some u) (hp:h.objs.size<=a) (new:cz P w (upd H a o) h' a o):lW P w (upd H a o) h':=fun b u e=>by
 have hn:=x.fresh hp
 by_cases hb:b=a
 ·subst hb; rw[az] at e; cases e; exact new
 ·rw[aP hb] at e
  exact(x b u e).stay (fun c v _ q=>k c v q) (fun c q=>by rw[aP (bN q hn)]; exact q) fun c xs q=>by rw[aP (bN q hn)]; exact q
end
def Rd (H:Hp) (a:Addr) (u:HO):Prop:=H a=some u\/∃o,H a=some (.Dn o u)
theorem Rd.ok {P:Program} {w:World} {H:Hp} {h:Heap} {a:Addr} {u:HO} (r:Rd H a u) (x:lW P w H h):cz P w H h a u:=by
 rcases r with r | ⟨o,r⟩
 ·exact x a u r
 ·obtain⟨_,q⟩:=x a _ r
  exact q
def Mut:Option HO->Prop
 | some (.lst _)=>True
 | some (.dK _)=>True
 | some (.dT _)=>True
 | some (.set _ _)=>True
 | some (.ins _ _ _)=>True
 | some (.ext _)=>True
 | _=>False
section
variable {P:Program} {w:World} {H:Hp} {h h':Heap} {x e:Addr} {o':HO}
theorem lW.write (ok:lW P w H h) (mu:Mut (H x)) (he:e=x\/H e=some (.own x)) (k:∀b u,b≠e->h.get? b=some u->h'.get? b=some u) (heo:∃u,h'.get? e=some u)
  (new:cz P w (upd H x o') h' x o'):lW P w (upd H x o') h':=fun b u q=>by
 have aag:∀c y,H c=some (.own y)->c≠x:=fun c y r z=>by subst z; rw[r] at mu; exact mu
 have ab_:∀c xs,H c=some (.tup xs)->c≠x:=fun c xs r z=>by subst z; rw[r] at mu; exact mu
 by_cases hb:b=x
 ·subst hb; rw[az] at q; cases q; exact new
 ·rw[aP hb] at q
  by_cases hbe:b=e
  ·have q':H b=some (.own x):=by
    rcases he with z | z
    ·exact absurd (hbe.trans z) hb
    ·rw[hbe]; exact z
   rw[q] at q'; cases q'
   obtain⟨v,hv⟩:=heo
   exact⟨v,by rw[hbe]; exact hv⟩
  ·refine(ok b u q).stay (fun c v hc r=>k c v ?_ r) (fun c r=>by rw[aP (aag c b r)]; exact r) fun c xs r=>by rw[aP (ab_ c xs r)]; exact r
   rcases hc with rfl | hc
   ·exact hbe
   ·rintro rfl
    rcases he with z | z
    ·exact aag c b hc z
    ·rw[hc] at z; cases z; exact hb rfl
end
structure Un (fs ex:List Addr) (H H':Hp) (h h':Heap):Prop where
 keep:∀b o,h.get? b=some o->H b=none->b∉fs->b∉ex->h'.get? b=some o
 slot:∀b o,h.get? b=some o->H b=none->b∈fs->b∉ex->∃sl,h'.get? b=some { o with slots:=sl }
 free:∀b o,h.get? b=some o->H b=none->b∉ex->H' b=none
 there:∀b o,h.get? b=some o->b∉ex->∃o',h'.get? b=some o'
 tups:∀b xs,H b=some (.tup xs)->H' b=some (.tup xs)
 yq:∀b o u,H b=some (.Dn o u)->H' b=some (.Dn o u)
 Bh:∀b ps,H b=some (.Vz ps)->∃more,H' b=some (.Vz (ps++more))
section
variable {fs fs' ex ex':List Addr} {H H1 H2:Hp} {h h1 h2 h':Heap} {a x e:Addr} {o:HO}
theorem Un.any (u:Un fs ex H H1 h h1) {b:Addr} {ob:Obj} (q:h.get? b=some ob) (n:H b=none) (hx:b∉ex):∃sl,h1.get? b=some { ob with slots:=sl }:=by
 by_cases hb:b∈fs
 ·exact u.slot b ob q n hb hx
 ·exact⟨ob.slots,u.keep b ob q n hb hx⟩
theorem Un.kept (k:∀b u,h.get? b=some u->h'.get? b=some u):Un fs ex H H h h':=
 ⟨fun b ob q _ _ _=>k b ob q,fun b ob q _ _ _=>⟨ob.slots,k b ob q⟩,fun _ _ _ n _=>n,fun b ob q _=>⟨ob,k b ob q⟩,fun _ _ q=>q,fun _ _ _ q=>q,fun _ ps q=>⟨#[],by rw[q]; simp⟩⟩
theorem Un.refl:Un fs ex H H h h:=Un.kept fun _ _ q=>q
theorem Un.laid (k:∀b u,h.get? b=some u->h'.get? b=some u) (hp:h.objs.size<=a) (hn:H a=none):Un fs ex H (upd H a o) h h' where
 keep:=fun b u q _ _ _=>k b u q
 slot:=fun b u q _ _ _=>⟨u.slots,k b u q⟩
 free:=fun b u q n _=>by rw[aP (fK (kI (b_ q) hp))]; exact n
 there:=fun b u q _=>⟨u,k b u q⟩
 tups:=fun b xs q=>by rw[aP (bN q hn)]; exact q
 yq:=fun b u xs q=>by rw[aP (bN q hn)]; exact q
 Bh:=fun b ps q=>⟨#[],by rw[aP (bN q hn),q]; simp⟩
theorem Un.write (mu:Mut (H x)) (he:e=x\/H e=some (.own x)) (k:∀b u,b≠e->h.get? b=some u->h'.get? b=some u) (heo:∃u,h'.get? e=some u):Un fs ex H (upd H x o) h h':=by
 have hx:∀b,H b=none->b≠x:=fun b n z=>by subst z; rw[n] at mu; exact mu
 have hb:∀b,H b=none->b≠e:=fun b n z=>by
  subst z
  rcases he with r | r
  ·exact hx b n r
  ·rw[n] at r; cases r
 have hm:∀b u,H b=some u->¬Mut (some u)->b≠x:=fun b u q nm z=>by subst z; rw[q] at mu; exact nm mu
 refine⟨fun b u q n _ _=>k b u (hb b n) q,fun b u q n _ _=>⟨u.slots,k b u (hb b n) q⟩,fun b u q n _=>by rw[aP (hx b n)]; exact n,fun b u q _=>?_,
  fun b xs q=>by rw[aP (hm b _ q fun z=>z)]; exact q,fun b u xs q=>by rw[aP (hm b _ q fun z=>z)]; exact q,fun b ps q=>⟨#[],by rw[aP (hm b _ q fun z=>z),q]; simp⟩⟩
 by_cases hbe:b=e
 ·subst hbe; exact heo
 ·exact⟨u,k b u hbe q⟩
end
def trk (h:Heap) (H:Hp):List Addr:=(List.range h.objs.size).filter fun a=>(H a).isSome
def Cy (h:Heap) (H:Hp):Heap:=PySem.W.hideAll h (trk h H)
theorem Nj (h:Heap) (H:Hp):(Cy h H).objs.size=h.objs.size:=PySem.W.hideAll_size _ _
theorem Rq {h:Heap} {H:Hp} {b:Addr} {o:Obj} (e:h.get? b=some o) (n:H b=none):(Cy h H).get? b=some o:=
 PySem.W.hideAll_get _ e fun hm=>by
  have q:(H b).isSome=true:=(List.mem_filter.mp hm).2
  rw[n] at q; simp at q
theorem Up {h:Heap} {H:Hp} {b:Addr} {o:Obj} (e:(Cy h H).get? b=some o):h.get? b=some o/\H b=none:=by
 have e':h.get? b=some o:=PySem.W.of_hideAll (trk h H) e
 refine⟨e',?_⟩
 cases q:H b with
 | none=>rfl
 | some x=>
  have hm:b∈trk h H:=List.mem_filter.mpr ⟨rR.mpr (b_ e'),by simp[q]⟩
  have z:(Cy h H).get? b=none:=PySem.W.hideAll_none (trk h H) hm
  rw[z] at e; cases e
def Vo (g h:Heap) (L:Addr):List (Addr×Obj):=(List.range h.objs.size).filterMap fun a=>if a=L\/(g.get? a).isSome=true then none else(h.get? a).map fun o=>(a,o)
def rest (g h:Heap) (L d:Addr):List (Addr×Obj):=(Vo g h L).filter fun p=>decide (p.1≠d)
structure Mod (K:PySem.W.Frag) (mg:Str->Option Value) (base:Heap):Prop where
 U9:K.In base
 glob:base.Ns mainGlobals mg
 blt:∃mb,base.Ns builtinsNs mb/\∀x:Str,x ≠ "__name__" -> mb x=bootBuiltins x
 nolimit:base.NoLimit
structure Cx where
 prog:Program
 w:World
 K:PySem.W.Frag
 mg:Str->Option Value
 base:Heap
 A:Around
 N:List Str
 s₀:Shared
 H₀:Hp
 env:Env
 outer:List Env
 stack:List Env
 ex:List Addr
 fn:Str->Bool
 calm:Bool
 pn:List (Addr×Obj)
 xe:Value->Shared->Prop
def frs (l:List Env):List Addr:=l.filterMap (·.frame)
abbrev Cx.fs (X:Cx):List Addr:=frs X.outer
def Vis (sc:Scope) (x:Str):Prop:=sc.names.lookup x=some .local\/sc.names.lookup x=some .cell\/sc.names.lookup x=some .free
def Loc (sc:Scope) (x:Str):Prop:=sc.names.lookup x=some .local\/sc.names.lookup x=some .cell
def Look (env:Env) (h:Heap) (m:Str->Option Value) (x:Str) (u:Value):Prop:=
 (env.kindOf x=some .local/\m x=some u)\/((env.kindOf x=some .cell\/env.kindOf x=some .free)/\∃c,env.cells.lookup x=some c/\h.IsCell c (some u))
structure Cx.Ok (X:Cx):Prop where
 mod:Mod X.K X.mg X.base
 kind:X.env.scope.kind=.function
 glob:X.env.globals=mainGlobals
 blt:X.env.builtins=builtinsNs
 above:X.s₀.heap.objs.size<=X.env.locals
 inj:∀x y c,X.env.cells.lookup x=some c->X.env.cells.lookup y=some c->x=y
 has:∀x,(X.env.kindOf x=some .cell\/X.env.kindOf x=some .free)->∃c,X.env.cells.lookup x=some c
 cab:∀x c,X.fn x=true->X.env.cells.lookup x=some c->X.s₀.heap.objs.size<=c
 hd:X.calm=true->X.A.handled=none
 frames:X.A.frames=some X.stack
 ZC:X.stack=X.outer\/(X.stack=X.env::X.outer/\X.env.frame=some X.env.locals)
 exf:∀b∈X.ex,b≠X.env.locals/\∀x c,X.env.cells.lookup x=some c->c≠b
 bs:∀b o,X.base.get? b=some o->X.s₀.heap.get? b=some o/\X.H₀ b=none
 Om:X.base.objs.size<=X.s₀.heap.objs.size
 Fp:∀b o,X.base.get? b=some o->b∉X.ex
 Ij:∀b∈X.ex,b∉X.fs
 uo:X.s₀.heap.FunFrames X.base X.outer
 Ye:∀b∈X.fs,X.H₀ b=none
structure Inv (X:Cx) (pins:List (Addr×Obj)) (σ:List (Option V)) (H:Hp) (s:Shared):Prop where
 ok:X.Ok
 os:s.os=X.s₀.os
 bare:AllBare s.gens
 base:Un X.fs X.ex X.H₀ H X.s₀.heap s.heap
 loc:∃m,s.heap.Ns X.env.locals m/\∀(i:Nat) (x:Str) (v:V),X.N[i]?=some x->σ[i]?=some (some v)->Vis X.env.scope x->∃u,RelV v u/\Look X.env s.heap m x u
 cell:∀x c,X.env.cells.lookup x=some c->∃v,s.heap.IsCell c v
 free:H X.env.locals=none
 kY:∀x c,X.env.cells.lookup x=some c->H c=none
 pin:∀p∈X.pn++pins,s.heap.get? p.1=some p.2/\H p.1=none/\p.1≠X.env.locals/\p.1∉X.fs/\∀v,p.2.data≠.cell v
 hok:lW X.prog X.w H s.heap
 len:σ.length=X.N.length
section
variable {X:Cx} {pins:List (Addr×Obj)} {σ:List (Option V)} {H H':Hp} {s:Shared} {h':Heap}
theorem Cx.Ok.acb (ok:X.Ok) {b:Addr} {o:Obj} (e:X.base.get? b=some o):b∉X.fs:=fun hb=>by
 have:=(ok.uo.mem hb).1
 rw[e] at this; cases this
theorem Inv.bs (I:Inv X pins σ H s):∀b o,X.base.get? b=some o->s.heap.get? b=some o/\H b=none:=fun b o e=>
 ⟨I.base.keep b o (I.ok.bs b o e).1 (I.ok.bs b o e).2 (I.ok.acb e) (I.ok.Fp b o e),I.base.free b o (I.ok.bs b o e).1 (I.ok.bs b o e).2 (I.ok.Fp b o e)⟩
theorem Inv.bk (I:Inv X pins σ H s):∀b o,X.base.get? b=some o->s.heap.get? b=some o:=fun b o e=>(I.bs b o e).1
theorem Inv.mod (I:Inv X pins σ H s):Mod X.K X.mg X.base:=I.ok.mod
theorem Inv.oJ (I:Inv X pins σ H s):X.K.In s.heap:=I.ok.mod.U9.keeps I.bk
theorem Inv.fr (I:Inv X pins σ H s):∃m,Fr X.base X.env.locals s.heap m:=
 let ⟨m,hn,_⟩:=I.loc
 ⟨m,hn,I.bk,oG I.ok.Om I.ok.above⟩
theorem Inv.lt (I:Inv X pins σ H s):X.env.locals<s.heap.objs.size:=let ⟨_,hn,_⟩:=I.loc; hn.lt
theorem Inv.sz (I:Inv X pins σ H s):X.s₀.heap.objs.size<=s.heap.objs.size:=oG I.ok.above (jB I.lt)
theorem Inv.aca (I:Inv X pins σ H s) {a:Addr} (h:s.heap.objs.size<=a):a∉X.fs:=fun hb=>by
 obtain⟨_,o,ho,_⟩:=I.ok.uo.mem hb
 exact absurd (kI (b_ ho) (oG I.sz h)) (rP _)
theorem Inv.Yk (I:Inv X pins σ H s):∀x c,X.env.cells.lookup x=some c->c≠X.env.locals:=fun x c e z=>by
 obtain⟨v,o,ho,hd⟩:=I.cell x c e
 obtain⟨m,⟨o',es,ep,ho',hd',_⟩,_⟩:=I.loc
 rw[z,ho'] at ho; cases ho; rw[hd'] at hd; cases hd
theorem Inv.uo (I:Inv X pins σ H s):s.heap.FunFrames X.base X.outer:=by
 have all:∀(l:List Env),(∀b∈frs l,b∈X.fs)->X.s₀.heap.FunFrames X.base l->s.heap.FunFrames X.base l:=by
  intro l
  induction l with
  | nil=>intro _ _; trivial
  | cons env r ih=>
   intro hs hl
   obtain⟨hk,⟨L,o,hf,hn,ho,hd⟩,hr⟩:=hl
   have hL:L∈X.fs:=hs L (by unfold frs; rw[Lz,hf]; exact jl)
   obtain⟨sl,e⟩:=I.base.slot L o ho (I.ok.Ye L hL) hL fun z=>I.ok.Ij L z hL
   exact⟨hk,⟨L,_,hf,hn,e,hd⟩,ih (fun b hb=>hs b (by unfold frs; rw[Lz,hf]; exact iM _ hb)) hr⟩
 exact all X.outer (fun _ hb=>hb) I.ok.uo
theorem Inv.stack (I:Inv X pins σ H s):s.heap.FunFrames X.base X.stack:=by
 rcases I.ok.ZC with e | ⟨e,hf⟩
 ·rw[e]; exact I.uo
 ·rw[e]
  obtain⟨m,hn,_⟩:=I.loc
  refine .cons (by rw[I.ok.kind]; decide) hf hn ?_ I.uo
  exact Heap.get?_none_of_le (oG I.ok.Om I.ok.above)
theorem Inv.Hd (I:Inv X pins σ H s):∀b∈frs X.stack,b∈X.env.locals::X.fs:=fun b hb=>by
 rcases I.ok.ZC with e | ⟨e,hf⟩
 ·rw[e] at hb; exact iM _ hb
 ·rw[e] at hb
  unfold frs at hb
  rw[Lz,hf] at hb
  exact hb
theorem Inv.uy (I:Inv X pins σ H s):∀b∈frs X.stack,H b=none:=fun b hb=>by
 rcases b7.mp (I.Hd b hb) with e | hb
 ·rw[e]; exact I.free
 ·obtain⟨_,o,ho,_⟩:=I.ok.uo.mem hb
  exact I.base.free b o ho (I.ok.Ye b hb) fun z=>I.ok.Ij b z hb
theorem Inv.step {g':Array GenState} {t':Nat} {d':Drawn} {ch:List Addr} (I:Inv X pins σ H s)
  (hch:∀b∈ch,(b∈X.ex\/X.s₀.heap.objs.size<=b)/\b≠X.env.locals/\(∀x c,X.env.cells.lookup x=some c->c≠b)/\∀p∈X.pn++pins,p.1≠b)
  (keep:∀b o,b≠X.env.locals->b∉X.fs->b∉ch->s.heap.get? b=some o->H b=none->h'.get? b=some o)
  (slot:∀b o,b≠X.env.locals->b∈X.fs->b∉ch->s.heap.get? b=some o->H b=none->∃sl,h'.get? b=some { o with slots:=sl }) (free:∀b o,b∉ch->s.heap.get? b=some o->H b=none->H' b=none)
  (there:∀b o,b∉ch->s.heap.get? b=some o->∃o',h'.get? b=some o')
  (tups:∀b xs,H b=some (.tup xs)->H' b=some (.tup xs)) (yq:∀b o u,H b=some (.Dn o u)->H' b=some (.Dn o u)) (Bh:∀b ps,H b=some (.Vz ps)->∃more,H' b=some (.Vz (ps++more)))
  (ns:∀m,s.heap.Ns X.env.locals m->h'.Ns X.env.locals m) (hok:lW X.prog X.w H' h') (hg:AllBare g') :
  Inv X pins σ H' { s with heap:=h',gens:=g',drawn:=d',toks:=t' }:=by
 have neL:∀b o,X.s₀.heap.get? b=some o->b≠X.env.locals:=fun b o e=>fK (kI (b_ e) I.ok.above)
 have neC:∀b o,X.s₀.heap.get? b=some o->b∉X.ex->b∉ch:=fun b o e hx hb=>by
  rcases(hch b hb).1 with z | z
  ·exact hx z
  ·exact absurd (kI (b_ e) z) (rP _)
 have cellK:∀x c,X.env.cells.lookup x=some c->∀v,s.heap.IsCell c v->h'.IsCell c v:=fun x c e v ⟨o,ho,hd⟩=>by
  have nch:c∉ch:=fun z=>(hch c z).2.2.1 x c e rfl
  by_cases hc:c∈X.fs
  ·obtain⟨sl,q⟩:=slot c o (I.Yk x c e) hc nch ho (I.kY x c e)
   exact⟨_,q,hd⟩
  ·exact⟨o,keep c o (I.Yk x c e) hc nch ho (I.kY x c e),hd⟩
 refine⟨I.ok,I.os,hg,⟨fun b o e n hb hx=>?_,fun b o e n hb hx=>?_,fun b o e n hx=>?_,fun b o e hx=>?_,fun b xs e=>tups b xs (I.base.tups b xs e),fun b o xs e=>yq b o xs (I.base.yq b o xs e),fun b ps e=>?_⟩,?_,fun x c e=>?_,?_,fun x c e=>?_,fun p hp=>?_,hok,I.len⟩
 ·exact keep b o (neL b o e) hb (neC b o e hx) (I.base.keep b o e n hb hx) (I.base.free b o e n hx)
 ·obtain⟨sl,e1⟩:=I.base.slot b o e n hb hx
  obtain⟨sl',e2⟩:=slot b _ (neL b o e) hb (neC b o e hx) e1 (I.base.free b o e n hx)
  exact⟨sl',e2⟩
 ·obtain⟨o',e1⟩:=I.base.there b o e hx
  exact free b o' (neC b o e hx) e1 (I.base.free b o e n hx)
 ·obtain⟨o',e1⟩:=I.base.there b o e hx
  exact there b o' (neC b o e hx) e1
 ·obtain⟨m1,e1⟩:=I.base.Bh b ps e
  obtain⟨m2,e2⟩:=Bh b _ e1
  exact⟨m1++m2,by rw[e2,Array.append_assoc]⟩
 ·obtain⟨m,hn,hl⟩:=I.loc
  refine⟨m,ns m hn,fun i x v e1 e2 e3=>?_⟩
  obtain⟨u,r,l⟩:=hl i x v e1 e2 e3
  refine⟨u,r,?_⟩
  rcases l with l | ⟨k,c,e,z⟩
  ·exact .inl l
  ·exact .inr ⟨k,c,e,cellK x c e _ z⟩
 ·obtain⟨v,z⟩:=I.cell x c e
  exact⟨v,cellK x c e v z⟩
 ·obtain⟨m,⟨o,_,_,ho,_⟩,_⟩:=I.loc
  exact free _ o (fun z=>(hch _ z).2.1 rfl) ho I.free
 ·obtain⟨v,o,ho,hd⟩:=I.cell x c e
  exact free c o (fun z=>(hch c z).2.2.1 x c e rfl) ho (I.kY x c e)
 ·obtain⟨e,n,ne,nf,d⟩:=I.pin p hp
  have nch:p.1∉ch:=fun z=>(hch p.1 z).2.2.2 p hp rfl
  exact⟨keep p.1 p.2 ne nf nch e n,free p.1 p.2 nch e n,ne,nf,d⟩
theorem Inv.un {t':Nat} (I:Inv X pins σ H s) (u:Un X.fs [] H H' s.heap h') (hok:lW X.prog X.w H' h'):Inv X pins σ H' { s with heap:=h',toks:=t' }:=by
 obtain⟨m,⟨o,es,ep,ho,r⟩,_⟩:=id I.loc
 obtain⟨sl,hL⟩:=u.any ho I.free (by simp)
 exact I.step (g':=s.gens) (d':=s.drawn) (ch:=[]) (fun _ z=>nomatch z) (fun b o _ hb _ e n=>u.keep b o e n hb (by simp)) (fun b o _ hb _ e n=>u.slot b o e n hb (by simp)) (fun b o _ e n=>u.free b o e n (by simp)) (fun b o _ e=>u.there b o e (by simp)) u.tups u.yq u.Bh (fun m' hm=>by
  obtain⟨o',es',ep',ho',r'⟩:=hm
  rw[ho] at ho'; cases ho'
  exact⟨_,es',ep',hL,r'⟩) hok I.bare
theorem Inv.call {g':Array GenState} {t':Nat} {d':Drawn} {ch:List Addr} (I:Inv X pins σ H s) (u:Un (frs X.stack) ch H H' s.heap h') (hok:lW X.prog X.w H' h') (hg:AllBare g')
  (hch:∀b∈ch,(b∈X.ex\/X.s₀.heap.objs.size<=b)/\b≠X.env.locals/\(∀x c,X.env.cells.lookup x=some c->c≠b)/\∀p∈X.pn++pins,p.1≠b) :
  Inv X pins σ H' { s with heap:=h',gens:=g',drawn:=d',toks:=t' }:=by
 obtain⟨m,⟨o,es,ep,ho,r⟩,_⟩:=id I.loc
 obtain⟨sl,hL⟩:=u.any ho I.free fun z=>(hch _ z).2.1 rfl
 exact I.step (ch:=ch) hch (fun b o hL hb hc e n=>u.keep b o e n (fun z=>(b7.mp (I.Hd b z)).elim hL hb) hc) (fun b o _ _ hc e n=>u.any e n hc) (fun b o hc e n=>u.free b o e n hc) (fun b o hc e=>u.there b o e hc) u.tups u.yq u.Bh (fun m' hm=>by
  obtain⟨o',es',ep',ho',r'⟩:=hm
  rw[ho] at ho'; cases ho'
  exact⟨_,es',ep',hL,r'⟩) hok hg
theorem Inv.turned {t':Nat} {it:Addr} (I:Inv X pins σ H s) (k:∀b o,b≠it->s.heap.get? b=some o->h'.get? b=some o) (hn:H it=none) (hL:it≠X.env.locals)
  (h1:it∈X.ex\/X.s₀.heap.objs.size<=it) (h2:∀x c,X.env.cells.lookup x=some c->c≠it) (h3:∀p∈X.pn++pins,p.1≠it):Inv X pins σ H { s with heap:=h',toks:=t' }:=by
 have nit:∀b u,H b=some u->b≠it:=fun b u e z=>by rw[z,hn] at e; cases e
 refine I.step (g':=s.gens) (d':=s.drawn) (ch:=[it]) (fun b hb=>?_) (fun b o _ _ hc e _=>k b o (fun z=>hc (by simp[z])) e) (fun b o _ _ hc e _=>⟨o.slots,k b o (fun z=>hc (by simp[z])) e⟩) (fun _ _ _ _ n=>n)
  (fun b o hc e=>⟨o,k b o (fun z=>hc (by simp[z])) e⟩) (fun _ _ e=>e) (fun _ _ _ e=>e) (fun b ps e=>⟨#[],by rw[e]; simp⟩) (fun m hm=>?_) (fun b u e=>?_) I.bare
 ·have e:b=it:=by simpa using hb
  subst e
  exact⟨h1,hL,h2,h3⟩
 ·obtain⟨o,es,ep,ho,r⟩:=hm
  exact⟨o,es,ep,k _ o (Ne.symm hL) ho,r⟩
 ·refine(I.hok b u e).stay (fun c v hc q=>k c v ?_ q) (fun _ q=>q) fun _ _ q=>q
  rcases hc with z | z
  ·rw[z]; exact nit b u e
  ·exact nit c _ z
theorem Inv.tok (I:Inv X pins σ H s) (t:Nat):Inv X pins σ H { s with toks:=t }:=I.un (h':=s.heap) (t':=t) Un.refl I.hok
theorem Inv.kept {t':Nat} (I:Inv X pins σ H s) (k:∀b u,s.heap.get? b=some u->h'.get? b=some u):Inv X pins σ H { s with heap:=h',toks:=t' }:=I.un (Un.kept k) (I.hok.kept k)
theorem Inv.laid {a:Addr} {o:HO} {t':Nat} (I:Inv X pins σ H s) (k:∀b u,s.heap.get? b=some u->h'.get? b=some u) (hp:s.heap.objs.size<=a) (new:cz X.prog X.w (upd H a o) h' a o) :
  Inv X pins σ (upd H a o) { s with heap:=h',toks:=t' }:=I.un (Un.laid k hp (I.hok.fresh hp)) (I.hok.laid k hp new)
theorem Inv.write {x e:Addr} {o:HO} {t':Nat} (I:Inv X pins σ H s) (mu:Mut (H x)) (he:e=x\/H e=some (.own x)) (k:∀b u,b≠e->s.heap.get? b=some u->h'.get? b=some u) (heo:∃u,h'.get? e=some u)
  (new:cz X.prog X.w (upd H x o) h' x o):Inv X pins σ (upd H x o) { s with heap:=h',toks:=t' }:=I.un (Un.write mu he k heo) (I.hok.write mu he k heo new)
theorem Inv.weak {σ':List (Option V)} (I:Inv X pins σ H s) (hl:σ'.length=σ.length) (w:∀(i:Nat) v,σ'[i]?=some (some v)->σ[i]?=some (some v)):Inv X pins σ' H s:=
 ⟨I.ok,I.os,I.bare,I.base,let ⟨m,hn,hl'⟩:=I.loc; ⟨m,hn,fun i x v e1 e2 e3=>hl' i x v e1 (w i v e2) e3⟩,I.cell,I.free,I.kY,I.pin,I.hok,hl.trans I.len⟩
theorem Inv.JN {V7:List (Addr×Obj)} (I:Inv X pins σ H s) (h:∀p∈V7,s.heap.get? p.1=some p.2/\H p.1=none/\p.1≠X.env.locals/\p.1∉X.fs/\∀v,p.2.data≠.cell v):Inv X V7 σ H s:=
 ⟨I.ok,I.os,I.bare,I.base,I.loc,I.cell,I.free,I.kY,fun p hp=>(oH.mp hp).elim (fun z=>I.pin p (List.mem_append_left _ z)) (h p),I.hok,I.len⟩
theorem Fq {N:List Str} (hN:N.Nodup) {i j:Nat} {x:Str} (a:N[i]?=some x) (b:N[j]?=some x):i=j:=by
 obtain⟨h1,e1⟩:=iQ.mp a
 obtain⟨h2,e2⟩:=iQ.mp b
 exact(List.getElem_inj hN).mp (e1.trans e2.symm)
theorem Lj {M:Model} {A:Around} {E:Value->Shared->Prop} {i:Nat} {x:Str} {v:V} {u:Value} {Q:Unit->Shared->Prop} (I:Inv X pins σ H s) (hN:X.N.Nodup) (hi:X.N[i]?=some x) (hx:Loc X.env.scope x) (r:RelV v u)
  (h:∀s',Inv X pins (σ.set i (some v)) H s'->(∃a,Heap.SameBut a s.heap s'.heap/\(a=X.env.locals\/X.env.cells.lookup x=some a))->Q () s') (hf:X.fn x=true\/X.env.scope.names.lookup x=some .local:=by first | exact .inl rfl | exact .inr rfl | assumption):wpAny M A (storeName X.env x u) Q E s:=by
 obtain⟨m,hn,hl⟩:=id I.loc
 have hcls:(X.env.scope.kind==.class || (X.env.scope.kind==.module&&X.env.locals != X.env.globals))=false:=by rw[I.ok.kind]; rfl
 have hiσ:i<σ.length:=by rw[I.len]; exact(iQ.mp hi).1
 have Yk:=I.Yk
 have tracked:∀{a:Addr} {h':Heap},(∃o,s.heap.get? a=some o/\H a=none)->Heap.SameBut a s.heap h'->lW X.prog X.w H h':=fun {a h'} ha hs b ob e=>by
  obtain⟨_,_,hfree⟩:=ha
  refine(I.hok b ob e).stay (fun c w' hc q=>(hs.2 c ?_).trans q) (fun _ q=>q) fun _ _ q=>q
  rintro rfl
  rcases hc with rfl | hc
  ·rw[hfree] at e; cases e
  ·rw[hfree] at hc; cases hc
 rcases hx with hk | hk
 ·refine wpAny_storeName_local hk hn (fun h' hn' hs=>?_) hcls
  obtain⟨oL,_,_,hoL,_⟩:=id hn
  refine h _ ⟨I.ok,I.os,I.bare,⟨fun b o e n hb hx=>?_,fun b o e n hb hx=>?_,I.base.free,fun b o e hx=>?_,I.base.tups,I.base.yq,I.base.Bh⟩,⟨_,hn',fun j y v' e1 e2 e3=>?_⟩,fun y c e=>?_,I.free,I.kY,fun p hp=>?_,tracked ⟨oL,hoL,I.free⟩ hs,by simpa using I.len⟩ ⟨_,hs,.inl rfl⟩
  ·exact(hs.2 b (fK (kI (b_ e) I.ok.above))).trans (I.base.keep b o e n hb hx)
  ·obtain⟨sl,e1⟩:=I.base.slot b o e n hb hx
   exact⟨sl,(hs.2 b (fK (kI (b_ e) I.ok.above))).trans e1⟩
  ·obtain⟨o',e1⟩:=I.base.there b o e hx
   exact⟨o',(hs.2 b (fK (kI (b_ e) I.ok.above))).trans e1⟩
  ·by_cases hj:j=i
   ·subst hj
    rw[hi] at e1; cases e1
    rw[List.getElem?_set_self hiσ] at e2
    cases e2
    exact⟨u,r,.inl ⟨hk,by simp⟩⟩
   ·rw[List.getElem?_set_ne (Ne.symm hj)] at e2
    obtain⟨u',r',q⟩:=hl j y v' e1 e2 e3
    refine⟨u',r',?_⟩
    rcases q with⟨k,e⟩ | ⟨k,c,e,z⟩
    ·refine .inl ⟨k,?_⟩
     have:y≠x:=fun e=>hj (Fq hN e1 (e▸hi))
     simp[this,e]
    ·exact .inr ⟨k,c,e,z.sameBut hs (Yk y c e)⟩
  ·obtain⟨w',z⟩:=I.cell y c e
   exact⟨w',z.sameBut hs (Yk y c e)⟩
  ·obtain⟨e,n,ne,nf,d⟩:=I.pin p hp
   exact⟨(hs.2 p.1 ne).trans e,n,ne,nf,d⟩
 ·have hfn:X.fn x=true:=by
   rcases hf with z | z
   ·exact z
   ·rw[z] at hk; cases hk
  obtain⟨c,hc⟩:=I.ok.has x (.inl hk)
  obtain⟨w',z⟩:=I.cell x c hc
  refine wpAny_storeName_cell I.ok.kind hk hc z (fun h' hc' hs=>?_)
  obtain⟨oc,hoc,acv⟩:=id z
  refine h { s with heap:=h' } ⟨I.ok,I.os,I.bare,⟨fun b o e n hb hx=>?_,fun b o e n hb hx=>?_,I.base.free,fun b o e hx=>?_,I.base.tups,I.base.yq,I.base.Bh⟩,⟨m,hn.sameBut hs (Ne.symm (Yk x c hc)),fun j y v' e1 e2 e3=>?_⟩,fun y c' e=>?_,I.free,I.kY,fun p hp=>?_,tracked ⟨oc,hoc,I.kY x c hc⟩ hs,by simpa using I.len⟩ ⟨c,hs,.inr hc⟩
  ·exact(hs.2 b (fK (kI (b_ e) (I.ok.cab x c hfn hc)))).trans (I.base.keep b o e n hb hx)
  ·obtain⟨sl,e1⟩:=I.base.slot b o e n hb hx
   exact⟨sl,(hs.2 b (fK (kI (b_ e) (I.ok.cab x c hfn hc)))).trans e1⟩
  ·obtain⟨o',e1⟩:=I.base.there b o e hx
   exact⟨o',(hs.2 b (fK (kI (b_ e) (I.ok.cab x c hfn hc)))).trans e1⟩
  ·by_cases hj:j=i
   ·subst hj
    rw[hi] at e1; cases e1
    rw[List.getElem?_set_self hiσ] at e2
    cases e2
    exact⟨u,r,.inr ⟨.inl hk,c,hc,hc'⟩⟩
   ·rw[List.getElem?_set_ne (Ne.symm hj)] at e2
    obtain⟨u',r',q⟩:=hl j y v' e1 e2 e3
    refine⟨u',r',?_⟩
    rcases q with q | ⟨k,c',e,z'⟩
    ·exact .inl q
    ·refine .inr ⟨k,c',e,z'.sameBut hs ?_⟩
     rintro rfl
     exact hj (Fq hN e1 (I.ok.inj _ _ _ e hc▸hi))
  ·by_cases hcc:c'=c
   ·subst hcc; exact⟨_,hc'⟩
   ·obtain⟨w2,z2⟩:=I.cell y c' e
    exact⟨w2,z2.sameBut hs hcc⟩
  ·obtain⟨e,n,ne,nf,d⟩:=I.pin p hp
   refine⟨(hs.2 p.1 ?_).trans e,n,ne,nf,d⟩
   intro q
   rw[q,hoc] at e
   have q':oc=p.2:=Option.some.inj e
   exact d w' (by rw[<- q']; exact acv)
theorem j9 {M:Model} {A:Around} {E:Value->Shared->Prop} {i:Nat} {x:Str} {v:V} {u:Value} {Q:Unit->Shared->Prop} (I:Inv X pins σ H s) (hN:X.N.Nodup) (hi:X.N[i]?=some x) (hx:Loc X.env.scope x) (r:RelV v u)
  (h:∀s',Inv X pins (σ.set i (some v)) H s'->Q () s') (hf:X.fn x=true\/X.env.scope.names.lookup x=some .local:=by first | exact .inl rfl | exact .inr rfl | assumption):wpAny M A (storeName X.env x u) Q E s:=
 Lj I hN hi hx r (fun s' I' _=>h s' I') hf
theorem Inv.call' {s':Shared} {ch:List Addr} (I:Inv X pins σ H s) (ho:s'.os=s.os) (u:Un (frs X.stack) ch H H' s.heap s'.heap) (hok:lW X.prog X.w H' s'.heap) (hg:AllBare s'.gens)
  (hch:∀b∈ch,(b∈X.ex\/X.s₀.heap.objs.size<=b)/\b≠X.env.locals/\(∀x c,X.env.cells.lookup x=some c->c≠b)/\∀p∈X.pn++pins,p.1≠b):Inv X pins σ H' s':=by
 obtain⟨h',g',d',t',o'⟩:=s'
 have e:o'=s.os:=ho
 subst e
 exact I.call (g':=g') (t':=t') (d':=d') u hok hg hch
end
abbrev XK:=Value->Option Addr->Hp->Prop
abbrev St:=List (Option V)
abbrev VK:=V->Hp->Prop
abbrev TE:=St->Hp->VK->Prop
abbrev TT:=St->Hp->(Bool->Hp->Prop)->Prop
abbrev TA:=St->Hp->(List V->Hp->Prop)->Prop
structure Ends where
 nx:St->Hp->Prop
 rt:VK
 bk:St->Hp->Prop:=fun _ _=>False
 ct:St->Hp->Prop:=fun _ _=>False
abbrev TS:=Ends->St->Hp->Prop
def EP (X:Cx) (pins:List (Addr×Obj)) (σ:St) (Q:VK) (u:Value) (s':Shared):Prop:=∃v H',Inv X pins σ H' s'/\RelV v u/\Q v H'
def TP (X:Cx) (pins:List (Addr×Obj)) (σ:St) (Q:Bool->Hp->Prop) (b:Bool) (s':Shared):Prop:=∃H',Inv X pins σ H' s'/\Q b H'
def AP (X:Cx) (pins:List (Addr×Obj)) (σ:St) (Q:List V->Hp->Prop) (us:List Value) (s':Shared):Prop:=∃vs H',Inv X pins σ H' s'/\Vals vs us/\Q vs H'
def SP (X:Cx) (pins:List (Addr×Obj)) (D:Ends) (f:Flow) (s':Shared):Prop:=
 match f with
 | .next=>∃σ' H',Inv X pins σ' H' s'/\D.nx σ' H'
 | .brk=>∃σ' H',Inv X pins σ' H' s'/\D.bk σ' H'
 | .cont=>∃σ' H',Inv X pins σ' H' s'/\D.ct σ' H'
 | .ret u=>∃v σ' H',Inv X pins σ' H' s'/\RelV v u/\D.rt v H'
structure PE (X:Cx) (e:Expr) (t:TE):Prop where
 mk ::
 go :
 ∀(pins:List (Addr×Obj)) (s:Shared) (σ:St) (H:Hp) (Q:VK),Inv X pins σ H s->t σ H Q->wpAny (model X.prog X.w) X.A (eval e X.env) (EP X pins σ Q) X.xe s
instance {X:Cx} {e:Expr} {t:TE}:CoeFun (PE X e t) (fun _=>
 ∀(pins:List (Addr×Obj)) (s:Shared) (σ:St) (H:Hp) (Q:VK),Inv X pins σ H s->t σ H Q->wpAny (model X.prog X.w) X.A (eval e X.env) (EP X pins σ Q) X.xe s):=⟨PE.go⟩
structure PT (X:Cx) (e:Expr) (t:TT):Prop where
 mk ::
 go :
 ∀(pins:List (Addr×Obj)) (s:Shared) (σ:St) (H:Hp) (Q:Bool->Hp->Prop),Inv X pins σ H s->t σ H Q->wpAny (model X.prog X.w) X.A (isTrue e X.env (eval e X.env)) (TP X pins σ Q) X.xe s
instance {X:Cx} {e:Expr} {t:TT}:CoeFun (PT X e t) (fun _=>
 ∀(pins:List (Addr×Obj)) (s:Shared) (σ:St) (H:Hp) (Q:Bool->Hp->Prop),Inv X pins σ H s->t σ H Q->wpAny (model X.prog X.w) X.A (isTrue e X.env (eval e X.env)) (TP X pins σ Q) X.xe s):=⟨PT.go⟩
structure PW (X:Cx) (e:Expr) (t:TT):Prop where
 mk ::
 go :
 ∀(whole:Sem Value) (pins:List (Addr×Obj)) (s:Shared) (σ:St) (H:Hp) (Q:Bool->Hp->Prop),Inv X pins σ H s->t σ H Q->wpAny (model X.prog X.w) X.A (isTrue e X.env whole) (TP X pins σ Q) X.xe s
instance {X:Cx} {e:Expr} {t:TT}:CoeFun (PW X e t) (fun _=>
 ∀(whole:Sem Value) (pins:List (Addr×Obj)) (s:Shared) (σ:St) (H:Hp) (Q:Bool->Hp->Prop),Inv X pins σ H s->t σ H Q->wpAny (model X.prog X.w) X.A (isTrue e X.env whole) (TP X pins σ Q) X.xe s):=⟨PW.go⟩
theorem PW.pt {X:Cx} {e:Expr} {t:TT} (h:PW X e t):PT X e t:=.mk <| h _
structure PA (X:Cx) (es:List Expr) (t:TA):Prop where
 mk ::
 go :
 ∀(pos:Pos) (pins:List (Addr×Obj)) (s:Shared) (σ:St) (H:Hp) (Q:List V->Hp->Prop),Inv X pins σ H s->t σ H Q->wpAny (model X.prog X.w) X.A (spliced (backTo pos (starEach es X.env))) (AP X pins σ Q) X.xe s
instance {X:Cx} {es:List Expr} {t:TA}:CoeFun (PA X es t) (fun _=>
 ∀(pos:Pos) (pins:List (Addr×Obj)) (s:Shared) (σ:St) (H:Hp) (Q:List V->Hp->Prop),Inv X pins σ H s->t σ H Q->wpAny (model X.prog X.w) X.A (spliced (backTo pos (starEach es X.env))) (AP X pins σ Q) X.xe s):=⟨PA.go⟩
structure PS (X:Cx) (st:Stmt) (t:TS):Prop where
 mk ::
 go :
 ∀(pins:List (Addr×Obj)) (s:Shared) (σ:St) (H:Hp) (D:Ends),Inv X pins σ H s->t D σ H->wpAny (model X.prog X.w) X.A (exec st X.env) (SP X pins D) X.xe s
instance {X:Cx} {st:Stmt} {t:TS}:CoeFun (PS X st t) (fun _=>
 ∀(pins:List (Addr×Obj)) (s:Shared) (σ:St) (H:Hp) (D:Ends),Inv X pins σ H s->t D σ H->wpAny (model X.prog X.w) X.A (exec st X.env) (SP X pins D) X.xe s):=⟨PS.go⟩
structure yI (X:Cx) (st:List Stmt) (t:TS):Prop where
 mk ::
 go :
 ∀(pins:List (Addr×Obj)) (s:Shared) (σ:St) (H:Hp) (D:Ends),Inv X pins σ H s->t D σ H->wpAny (model X.prog X.w) X.A (execs st X.env) (SP X pins D) X.xe s
instance {X:Cx} {st:List Stmt} {t:TS}:CoeFun (yI X st t) (fun _=>
 ∀(pins:List (Addr×Obj)) (s:Shared) (σ:St) (H:Hp) (D:Ends),Inv X pins σ H s->t D σ H->wpAny (model X.prog X.w) X.A (execs st X.env) (SP X pins D) X.xe s):=⟨yI.go⟩
theorem cQ {α:Type} {t:Sem α} {Q Q':α->Shared->Prop} {M:Model} {A:Around} {E:Value->Shared->Prop} {s:Shared} (h:wpAny M A t Q E s) (hQ:∀a s,Q a s->Q' a s):wpAny M A t Q' E s:=gm h hQ fun _ _ x=>x
section
variable {X:Cx}
def rF (i:Nat):TE:=fun σ H Q=>match σ[i]? with
 | some (some v)=>Q v H
 | _=>False
theorem rF.ex {i:Nat} {σ:St} {H:Hp} {Q:VK} (h:rF i σ H Q):∃v,σ[i]?=some (some v)/\Q v H:=by
 unfold rF at h
 split at h
 ·rename_i v e
  exact⟨v,e,h⟩
 ·exact h.elim
def tC (v:V):TE:=fun _ H Q=>Q v H
theorem QG {i:Nat} {x:Str} {pos:Pos} (hN:X.N[i]?=some x) (hv:Vis X.env.scope x) (hd:(x==("__debug__" : Str))=false:=by decide) (hcd:(x==("__classdict__" : Str))=false:=by decide):PE X (.Name x pos) (rF i):=by
 refine .mk ?_
 intro pins s σ H Q I h
 obtain⟨v,e,h⟩:=rF.ex h
 obtain⟨m,hn,hl⟩:=I.loc
 obtain⟨u,r,l⟩:=hl i x v hN e hv
 have fin:EP X pins σ Q u s:=⟨v,H,I,r,h⟩
 rcases l with⟨hk,hm⟩ | ⟨hk,c,hc,hcell⟩
 ·exact wpAny_Name (wpAny_loadName_local I.ok.kind hk hn hm fin) hd
 ·rcases hk with hk | hk
  ·exact wpAny_Name (wpAny_loadName_cell I.ok.kind hk hc hcell fin) hd
  ·exact wpAny_Name (wpAny_loadName_free I.ok.kind hk hc hcell fin hcd) hd
theorem ao {i j pos}:PE X (.Constant (.int i) j pos) (tC (.int i)):=.mk <| fun _ _ _ H _ I h=>wpAny_Constant_int ⟨.int i,H,I.tok _,⟨_,rfl⟩,h⟩
theorem qz {b j pos}:PE X (.Constant (.bool b) j pos) (tC (.bl b)):=.mk <| fun _ _ _ H _ I h=>Constant_bool ⟨.bl b,H,I,rfl,h⟩
theorem dR {j pos}:PE X (.Constant .none j pos) (tC .non):=.mk <| fun _ _ _ H _ I h=>Constant_none ⟨.non,H,I,rfl,h⟩
theorem dN {x j pos}:PE X (.Constant (.str x) j pos) (tC (.str x)):=.mk <| fun _ _ _ H _ I h=>Calls.Constant_str ⟨.str x,H,I.tok _,⟨_,rfl⟩,h⟩
def Gl (X:Cx) (x:Str):Prop:=X.env.kindOf x=some .globalImplicit
theorem uI {E:Value->Shared->Prop} {pins:List (Addr×Obj)} {s:Shared} {σ:St} {H:Hp} {x:Str} {u:Value} {pos:Pos} {Q:Value->Shared->Prop} (I:Inv X pins σ H s) (hg:Gl X x) (hm:X.mg x=some u) (h:Q u s)
  (hd:(x==("__debug__" : Str))=false:=by decide):wpAny (model X.prog X.w) X.A (eval (.Name x pos) X.env) Q E s:=
 Calls.Name_function_global I.ok.kind hg (Calls.loadGlobal_global (by rw[I.ok.glob]; exact I.mod.glob.keeps I.bk) hm h) hd
theorem iR {E:Value->Shared->Prop} {pins:List (Addr×Obj)} {s:Shared} {σ:St} {H:Hp} {x:Str} {u:Value} {pos:Pos} {Q:Value->Shared->Prop} (I:Inv X pins σ H s) (hg:Gl X x) (hm:X.mg x=none) (hv:bootBuiltins x=some u) (h:Q u s)
  (hn:x ≠ "__name__" := by decide) (hd:(x==("__debug__" : Str))=false:=by decide):wpAny (model X.prog X.w) X.A (eval (.Name x pos) X.env) Q E s:=by
 obtain⟨mb,h1,h2⟩:=I.mod.blt
 exact Calls.Name_function_global I.ok.kind hg (Calls.loadGlobal_builtin (by rw[I.ok.glob]; exact I.mod.glob.keeps I.bk) hm (by rw[I.ok.blt]; exact h1.keeps I.bk) ((h2 x hn).trans hv) h) hd
theorem uz {x:Str} {v:V} {u:Value} {pos:Pos} (hg:Gl X x) (hm:X.mg x=some u) (r:RelV v u) (hd:(x==("__debug__" : Str))=false:=by decide):PE X (.Name x pos) (tC v):=
 .mk <| fun _ _ _ H _ I h=>uI I hg hm ⟨v,H,I,r,h⟩ hd
theorem Ue {x:Str} {v:V} {u:Value} {pos:Pos} (hg:Gl X x) (hm:X.mg x=none) (hv:bootBuiltins x=some u) (r:RelV v u) (hn:x ≠ "__name__" := by decide) (hd:(x==("__debug__" : Str))=false:=by decide):PE X (.Name x pos) (tC v):=
 .mk <| fun _ _ _ H _ I h=>iR I hg hm hv ⟨v,H,I,r,h⟩ hn hd
variable {a b:Expr} {ta tb:TE} {pos:Pos}
def tB (t:TE):TT:=fun σ H Q=>t σ H fun x H1=>∃c,x=.bl c/\Q c H1
theorem jR {e:Expr} {t:TE} (h:PE X e t) (he:∀whole,isTrue e X.env whole=(do let v <- whole; standAt e.pos; holding [v] (truthy v)):=by intro _; rfl):PT X e (tB t):=by
 refine .mk ?_
 intro pins s σ H Q I hw
 refine isTrue_plain (cQ (h pins s σ H _ I hw) fun v s1 ⟨x,H1,I1,r1,q1⟩=>?_) (he _)
 obtain⟨d,rfl,q⟩:=q1
 cases r1
 exact Eh ⟨H1,I1,q⟩
variable {tA tB':TT} {rest:List Expr}
def Zy (t u:TT):TT:=fun σ H Q=>t σ H fun c H1=>if c=true then u σ H1 Q else Q false H1
def tOr (t u:TT):TT:=fun σ H Q=>t σ H fun c H1=>if c=true then Q true H1 else u σ H1 Q
def Zv (t:TT):TT:=fun σ H Q=>t σ H fun c H1=>Q (!c) H1
theorem nQ (ha:PT X a tA):PW X (.BoolOp .And [a] pos) tA:=by
 refine .mk ?_
 intro wh pins s σ H Q I h
 refine isTrue_and (cQ (ha pins s σ H Q I h) fun c s1 e=>?_)
 cases c with
 | true=>exact isTrue_and_nil e
 | false=>exact e
theorem rZ (ha:PT X a tA):PW X (.BoolOp .Or [a] pos) tA:=by
 refine .mk ?_
 intro wh pins s σ H Q I h
 refine isTrue_or (cQ (ha pins s σ H Q I h) fun c s1 e=>?_)
 cases c with
 | false=>exact isTrue_or_nil e
 | true=>exact e
theorem sr (ha:PT X a tA) (hb:PW X (.BoolOp .And (b::rest) pos) tB'):PW X (.BoolOp .And (a::b::rest) pos) (Zy tA tB'):=by
 refine .mk ?_
 intro wh pins s σ H Q I h
 refine isTrue_and (cQ (ha pins s σ H _ I h) fun c s1 qx=>?_)
 obtain⟨H1,I1,q1⟩:=qx
 cases c with
 | true=>exact hb wh pins s1 σ H1 Q I1 q1
 | false=>exact⟨H1,I1,q1⟩
theorem zP (ha:PT X a tA) (hb:PW X (.BoolOp .Or (b::rest) pos) tB'):PW X (.BoolOp .Or (a::b::rest) pos) (tOr tA tB'):=by
 refine .mk ?_
 intro wh pins s σ H Q I h
 refine isTrue_or (cQ (ha pins s σ H _ I h) fun c s1 qx=>?_)
 obtain⟨H1,I1,q1⟩:=qx
 cases c with
 | true=>exact⟨H1,I1,q1⟩
 | false=>exact hb wh pins s1 σ H1 Q I1 q1
theorem BP (ha:PT X a tA):PT X (.UnaryOp .Not a pos) (Zv tA):=by
 refine .mk ?_
 intro pins s σ H Q I h
 exact isTrue_not (ha pins s σ H (fun c H1=>Q (!c) H1) I h)
def VN (ta tb:TE):TE:=fun σ H Q=>ta σ H fun x H1=>∃c,x=.bl c/\if c=true then tb σ H1 Q else Q (.bl false) H1
def Zt (ta tb:TE):TE:=fun σ H Q=>ta σ H fun x H1=>∃c,x=.bl c/\if c=true then Q (.bl true) H1 else tb σ H1 Q
def Zu (ta:TE):TE:=fun σ H Q=>ta σ H fun x H1=>∃c,x=.bl c/\Q (.bl (!c)) H1
theorem vY {op} {t:TE} (h:PE X a t):PE X (.BoolOp op [a] pos) t:=.mk <| fun pins s σ H Q I hw=>BoolOp_one (h pins s σ H Q I hw)
theorem BV (ha:PE X a ta) (hb:PE X (.BoolOp .And (b::rest) pos) tb):PE X (.BoolOp .And (a::b::rest) pos) (VN ta tb):=by
 refine .mk ?_
 intro pins s σ H Q I h
 refine BoolOp_and (cQ (ha pins s σ H _ I h) fun v s1 qx=>?_)
 obtain⟨x,H1,I1,r1,q1⟩:=qx
 obtain⟨c,rfl,q1⟩:=q1
 cases r1
 refine Eh ?_
 cases c with
 | true=>exact hb pins s1 σ H1 Q I1 q1
 | false=>exact⟨.bl false,H1,I1,rfl,q1⟩
theorem V8 (ha:PE X a ta) (hb:PE X (.BoolOp .Or (b::rest) pos) tb):PE X (.BoolOp .Or (a::b::rest) pos) (Zt ta tb):=by
 refine .mk ?_
 intro pins s σ H Q I h
 refine BoolOp_or (cQ (ha pins s σ H _ I h) fun v s1 qx=>?_)
 obtain⟨x,H1,I1,r1,q1⟩:=qx
 obtain⟨c,rfl,q1⟩:=q1
 cases r1
 refine Eh ?_
 cases c with
 | false=>exact hb pins s1 σ H1 Q I1 q1
 | true=>exact⟨.bl true,H1,I1,rfl,q1⟩
def tIf (t:TT) (ta tb:TE):TE:=fun σ H Q=>t σ H fun c H1=>if c=true then ta σ H1 Q else tb σ H1 Q
theorem eQ {c:Expr} (hc:PT X c tA) (ha:PE X a ta) (hb:PE X b tb):PE X (.IfExp c a b pos) (tIf tA ta tb):=by
 refine .mk ?_
 intro pins s σ H Q I h
 refine wpAny_IfExp (cQ (hc pins s σ H _ I h) fun d s1 qx=>?_)
 obtain⟨H1,I1,q1⟩:=qx
 cases d with
 | true=>exact ha pins s1 σ H1 Q I1 q1
 | false=>exact hb pins s1 σ H1 Q I1 q1
end
def dX (K:PySem.W.Frag) (H:Hp) (a:Addr) (xs:List V):Prop:=
 Rd H a (.lst xs) \/
  ∃(o:Obj) (its:Array Value) (n:Nat),K.lookup a=some o/\o.cls=.type "list" /\ o.dict=none/\o.data=.seq its n/\its.size<=sizeLine/\Vals xs its.toList
def cG (K:PySem.W.Frag) (H:Hp) (a:Addr) (xs:List V):Prop:=
 Rd H a (.tup xs) \/
  ∃(o:Obj) (its:Array Value) (n:Nat),K.lookup a=some o/\o.cls=.type "tuple" /\ o.data=.seq its n/\its.size<=sizeLine/\Vals xs its.toList
def adq:Value->Option V
 | .none=>some .non
 | .bool b=>some (.bl b)
 | .int i _=>some (.int i)
 | .str x _=>some (.str x)
 | .bytes b _=>some (.Ol b)
 | .float b _=>some (.flt b)
 | .ref a=>some (.ref a)
 | .type n=>some (.ty n)
 | _=>none
theorem RelV.abs {x:V} {u:Value} (r:RelV x u):adq u=some x:=by
 cases x with
 | non=>cases r; rfl
 | bl _=>cases r; rfl
 | int _=>obtain⟨t,rfl⟩:=r; rfl
 | str _=>obtain⟨t,rfl⟩:=r; rfl
 | Ol _=>obtain⟨t,rfl⟩:=r; rfl
 | flt _=>obtain⟨t,rfl⟩:=r; rfl
 | ref _=>cases r; rfl
 | ty _=>cases r; rfl
theorem RelV.inj {x y:V} {u:Value} (r:RelV x u) (q:RelV y u):x=y:=Option.some.inj (r.abs.symm.trans q.abs)
theorem Vals.inj:∀{xs ys:List V} {us:List Value},Vals xs us->Vals ys us->xs=ys
 | _,_,_,.nil,.nil=>rfl
 | _,_,_,.cons r t,.cons r' t'=>by rw[r.inj r',Vals.inj t t']
section
variable {X:Cx} {pins:List (Addr×Obj)} {σ:St} {H:Hp} {s:Shared} {a:Addr} {xs ys:List V}
theorem dX.of {K:PySem.W.Frag} (h:H a=some (.lst xs)):dX K H a xs:=.inl (.inl h)
theorem cG.of {K:PySem.W.Frag} (h:H a=some (.tup xs)):cG K H a xs:=.inl (.inl h)
theorem Inv.list (I:Inv X pins σ H s) (h:dX X.K H a xs):∃its:List Value,Vals xs its/\PlainL s.heap a its.toArray/\xs.length<=sizeLine:=by
 rcases h with h | ⟨o,its,n,hk,hc,hd,hs,hz,r⟩
 ·obtain⟨z,its,n,r,e⟩:=h.ok I.hok
  exact⟨its,r,⟨_,n,e,rfl,rfl,rfl⟩,z⟩
 ·refine⟨its.toList,r,⟨o,n,I.oJ a o hk,hc,hd,by simpa using hs⟩,?_⟩
  have e:=r.length
  simp only[l_] at e
  omega
theorem Inv.tuple (I:Inv X pins σ H s) (h:cG X.K H a xs):∃its:List Value,Vals xs its/\IsTup s.heap a its.toArray/\xs.length<=sizeLine:=by
 rcases h with h | ⟨o,its,n,hk,hc,hs,hz,r⟩
 ·obtain⟨z,its,r,p⟩:=h.ok I.hok
  exact⟨its,r,p,z⟩
 ·refine⟨its.toList,r,⟨o,I.oJ a o hk,hc,n,by simpa using hs⟩,?_⟩
  have e:=r.length
  simp only[l_] at e
  omega
theorem Inv.wG (I:Inv X pins σ H s) (h:dX X.K H a xs) (h':dX X.K H a ys):xs=ys:=by
 obtain⟨its,r,⟨o,n,e,_,_,d⟩,_⟩:=I.list h
 obtain⟨its',r',⟨o',n',e',_,_,d'⟩,_⟩:=I.list h'
 rw[e] at e'; cases e'
 rw[d] at d'
 injection d' with d1 _
 have:its=its':=by simpa using gW Array.toList d1
 subst this
 exact r.inj r'
theorem Inv.rE (I:Inv X pins σ H s) (h:cG X.K H a xs) (h':cG X.K H a ys):xs=ys:=by
 obtain⟨its,r,⟨o,e,_,n,d⟩,_⟩:=I.tuple h
 obtain⟨its',r',⟨o',e',_,n',d'⟩,_⟩:=I.tuple h'
 rw[e] at e'; cases e'
 rw[d] at d'
 injection d' with d1 _
 have:its=its':=by simpa using gW Array.toList d1
 subst this
 exact r.inj r'
end
abbrev Cx.wish (X:Cx) (E:Value->Shared->Prop):Cx:={ X with xe:=E }
abbrev Cx.YG (X:Cx):Cx:=X.wish fun _ _=>False
theorem Cx.Ok.wish {X:Cx} (ok:X.Ok) (E:Value->Shared->Prop):(X.wish E).Ok:=
 ⟨ok.mod,ok.kind,ok.glob,ok.blt,ok.above,ok.inj,ok.has,ok.cab,ok.hd,ok.frames,ok.ZC,ok.exf,ok.bs,ok.Om,ok.Fp,ok.Ij,ok.uo,ok.Ye⟩
theorem Cx.Ok.mC {X:Cx} {E:Value->Shared->Prop} (ok:(X.wish E).Ok):X.Ok:=
 ⟨ok.mod,ok.kind,ok.glob,ok.blt,ok.above,ok.inj,ok.has,ok.cab,ok.hd,ok.frames,ok.ZC,ok.exf,ok.bs,ok.Om,ok.Fp,ok.Ij,ok.uo,ok.Ye⟩
section
variable {X:Cx} {pins:List (Addr×Obj)} {σ:St} {H:Hp} {s:Shared} {E:Value->Shared->Prop}
theorem Inv.wish (I:Inv X pins σ H s) (E:Value->Shared->Prop):Inv (X.wish E) pins σ H s:=⟨I.ok.wish E,I.os,I.bare,I.base,I.loc,I.cell,I.free,I.kY,I.pin,I.hok,I.len⟩
theorem Inv.mC (I:Inv (X.wish E) pins σ H s):Inv X pins σ H s:=⟨I.ok.mC,I.os,I.bare,I.base,I.loc,I.cell,I.free,I.kY,I.pin,I.hok,I.len⟩
theorem SP.mC {D:Ends} {f:Flow} {s':Shared} (h:SP (X.wish E) pins D f s'):SP X pins D f s':=by
 cases f with
 | next=>obtain⟨σ',H',I,q⟩:=h; exact⟨σ',H',I.mC,q⟩
 | brk=>obtain⟨σ',H',I,q⟩:=h; exact⟨σ',H',I.mC,q⟩
 | cont=>obtain⟨σ',H',I,q⟩:=h; exact⟨σ',H',I.mC,q⟩
 | ret u=>obtain⟨v,σ',H',I,r,q⟩:=h; exact⟨v,σ',H',I.mC,r,q⟩
theorem yI.YG {st:List Stmt} {t:TS} (h:yI X.YG st t):yI X st t:=.mk <| fun pins s σ H D I hw=>
 gm (h pins s σ H D (I.wish _) hw) (fun _ _ q=>q.mC) fun _ _ z=>False.elim z
end
section
variable {X:Cx} {st:Stmt} {rest:List Stmt} {t u:TS} {e:Expr} {te:TE} {pos:Pos}
def VG:TS:=fun D σ H=>D.nx σ H
def Bj (t u:TS):TS:=fun D σ H=>t { D with nx:=u D } σ H
theorem bT:yI X [] VG:=.mk <| fun _ _ σ H _ I h=>zK ⟨σ,H,I,h⟩
theorem aq (h1:PS X st t) (h2:yI X rest u):yI X (st::rest) (Bj t u):=by
 refine .mk ?_
 intro pins s σ H D I h
 refine wpAny_execs_cons (cQ (h1 pins s σ H { D with nx:=u D } I h) fun f s1 q=>?_)
 cases f with
 | next=>
  obtain⟨σ',H',I',q⟩:=q
  exact h2 pins s1 σ' H' D I' q
 | ret v=>exact q
 | brk=>exact q
 | cont=>exact q
theorem aG (h1:PS X st t):yI X [st] t:=by
 refine .mk ?_
 intro pins s σ H D I h
 refine wpAny_execs_cons (cQ (h1 pins s σ H D I h) fun f s1 q=>?_)
 cases f with
 | next=>exact zK q
 | ret v=>exact q
 | brk=>exact q
 | cont=>exact q
theorem Inv.quiet {pins:List (Addr×Obj)} {σ:St} {H:Hp} {s:Shared} (I:Inv X pins σ H s):interactive X.env=false:=by simp[interactive,I.ok.kind]
def VL (te:TE):TS:=fun D σ H=>te σ H fun _ H1=>D.nx σ H1
theorem iZ (he:PE X e te) (hs:swapsWith e none pos.line X.env=pure false:=by rfl):PS X (.Expr e pos) (VL te):=by
 refine .mk ?_
 intro pins s σ H D I h
 exact wpAny_Expr_any (cQ (he pins s σ H _ I h) fun v s1 ⟨x,H1,I1,r1,q1⟩=>⟨σ,H1,I1,q1⟩) I.quiet hs
def Zq (te:TE):TS:=fun D σ H=>te σ H D.rt
theorem aX (he:PE X e te):PS X (.Return (some e) pos) (Zq te):=by
 refine .mk ?_
 intro pins s σ H D I h
 exact wpAny_Return_some (cQ (he pins s σ H _ I h) fun v s1 ⟨x,H1,I1,r1,q1⟩=>⟨x,σ,H1,I1,r1,q1⟩)
def Zo:TS:=fun D _ H=>D.rt .non H
def Th (c:TT) (t u:TS):TS:=fun D σ H=>c σ H fun b H1=>if b=true then t D σ H1 else u D σ H1
theorem dJ {c:Expr} {a b:List Stmt} {tc:TT} (hc:PT X c tc) (ha:yI X a t) (hb:yI X b u):PS X (.If c a b pos) (Th tc t u):=by
 refine .mk ?_
 intro pins s σ H D I h
 refine wpAny_If (cQ (hc pins s σ H _ I h) fun d s1 qx=>?_)
 obtain⟨H1,I1,q1⟩:=qx
 cases d with
 | true=>exact ha pins s1 σ H1 D I1 q1
 | false=>exact hb pins s1 σ H1 D I1 q1
end
abbrev TG:=V->St->Hp->(St->Hp->Prop)->Prop
abbrev R5:=List V->St->Hp->(St->Hp->Prop)->Prop
structure PG (X:Cx) (target:Expr) (t:TG):Prop where
 mk ::
 go :
 ∀(pins:List (Addr×Obj)) (s:Shared) (σ:St) (H:Hp) (v:V) (u:Value) (Q:St->Hp->Prop),Inv X pins σ H s->RelV v u->t v σ H Q ->
  wpAny (model X.prog X.w) X.A (assign target X.env u) (fun _ s'=>∃σ' H',Inv X pins σ' H' s'/\Q σ' H') X.xe s
instance {X:Cx} {target:Expr} {t:TG}:CoeFun (PG X target t) (fun _=>
 ∀(pins:List (Addr×Obj)) (s:Shared) (σ:St) (H:Hp) (v:V) (u:Value) (Q:St->Hp->Prop),Inv X pins σ H s->RelV v u->t v σ H Q ->
  wpAny (model X.prog X.w) X.A (assign target X.env u) (fun _ s'=>∃σ' H',Inv X pins σ' H' s'/\Q σ' H') X.xe s):=⟨PG.go⟩
structure Yu (X:Cx) (ts:List Expr) (t:R5):Prop where
 mk ::
 go :
 ∀(pins:List (Addr×Obj)) (s:Shared) (σ:St) (H:Hp) (vs:List V) (us:List Value) (Q:St->Hp->Prop),Inv X pins σ H s->Vals vs us->t vs σ H Q ->
  wpAny (model X.prog X.w) X.A (assignInOrder ((assignEach ts X.env).map (·.2)) us) (fun _ s'=>∃σ' H',Inv X pins σ' H' s'/\Q σ' H') X.xe s
instance {X:Cx} {ts:List Expr} {t:R5}:CoeFun (Yu X ts t) (fun _=>
 ∀(pins:List (Addr×Obj)) (s:Shared) (σ:St) (H:Hp) (vs:List V) (us:List Value) (Q:St->Hp->Prop),Inv X pins σ H s->Vals vs us->t vs σ H Q ->
  wpAny (model X.prog X.w) X.A (assignInOrder ((assignEach ts X.env).map (·.2)) us) (fun _ s'=>∃σ' H',Inv X pins σ' H' s'/\Q σ' H') X.xe s):=⟨Yu.go⟩
abbrev Oa:=V->V->V->Hp->(Hp->Prop)->Prop
structure R7 (X:Cx) (t:Oa):Prop where
 mk ::
 go :
 ∀(pins:List (Addr×Obj)) (s:Shared) (σ:St) (H:Hp) (o i v:V) (ov iv u:Value) (Q:Hp->Prop),Inv X pins σ H s->RelV o ov->RelV i iv->RelV v u->t o i v H Q ->
  wpAny (model X.prog X.w) X.A (setItem ov iv u) (fun _ s'=>∃H',Inv X pins σ H' s'/\Q H') X.xe s
instance {X:Cx} {t:Oa}:CoeFun (R7 X t) (fun _=>
 ∀(pins:List (Addr×Obj)) (s:Shared) (σ:St) (H:Hp) (o i v:V) (ov iv u:Value) (Q:Hp->Prop),Inv X pins σ H s->RelV o ov->RelV i iv->RelV v u->t o i v H Q ->
  wpAny (model X.prog X.w) X.A (setItem ov iv u) (fun _ s'=>∃H',Inv X pins σ H' s'/\Q H') X.xe s):=⟨R7.go⟩
abbrev YZ:=V->V->Hp->VK->Prop
def PIp (X:Cx) (op:Operator) (t:YZ):Prop:=
 ∀(pins:List (Addr×Obj)) (s:Shared) (σ:St) (H:Hp) (x y:V) (v u:Value) (Q:VK),Inv X pins σ H s->RelV x v->RelV y u->t x y H Q ->
  wpAny (model X.prog X.w) X.A (inplaceOp op v u) (EP X pins σ Q) X.xe s
section
variable {X:Cx} {pos:Pos}
def dG (i:Nat):TG:=fun v σ H Q=>Q (σ.set i (some v)) H
theorem aD {i:Nat} {x:Str} (hN:X.N.Nodup) (hi:X.N[i]?=some x) (hx:Loc X.env.scope x) (hf:X.fn x=true\/X.env.scope.names.lookup x=some .local:=by first | exact .inl rfl | exact .inr rfl | assumption):PG X (.Name x pos) (dG i):=by
 refine .mk ?_
 intro pins s σ H v u Q I r h
 exact wpAny_assign_Name (j9 I hN hi hx r (fun s' I'=>⟨_,H,I',h⟩) hf)
def wW:R5:=fun vs σ H Q=>match vs with
 | []=>Q σ H
 | _=>False
theorem wW.ex {vs:List V} {σ:St} {H:Hp} {Q:St->Hp->Prop} (h:wW vs σ H Q):vs=[]/\Q σ H:=by
 cases vs with
 | nil=>exact⟨rfl,h⟩
 | cons a b=>exact h.elim
def iD (t:TG) (u:R5):R5:=fun vs σ H Q=>match vs with
 | v::r=>t v σ H fun σ' H'=>u r σ' H' Q
 | []=>False
theorem iD.ex {t:TG} {u:R5} {vs:List V} {σ:St} {H:Hp} {Q:St->Hp->Prop} (h:iD t u vs σ H Q):∃v r,vs=v::r/\t v σ H fun σ' H'=>u r σ' H' Q:=by
 cases vs with
 | nil=>exact h.elim
 | cons a b=>exact⟨a,b,rfl,h⟩
theorem bI:Yu X [] wW:=by
 refine .mk ?_
 intro pins s σ H vs us Q I r h
 obtain⟨e,h⟩:=wW.ex h
 subst e
 cases r
 exact assignInOrder_nil ⟨σ,H,I,h⟩
theorem aC {e:Expr} {es:List Expr} {t:TG} {u:R5} (h1:PG X e t) (h2:Yu X es u)
  (hs:(assignEach (e::es) X.env).map (·.2)=assign e X.env::(assignEach es X.env).map (·.2):=by rfl):Yu X (e::es) (iD t u):=by
 refine .mk ?_
 intro pins s σ H vs us Q I r h
 obtain⟨v,vr,e1,h⟩:=iD.ex h
 subst e1
 cases r with
 | cons r rr=>
  rw[hs]
  refine assignInOrder_cons (cQ (h1 pins s σ H _ _ _ I r h) fun _ s1 qx=>?_)
  obtain⟨σ1,H1,I1,q1⟩:=qx
  exact h2 pins s1 σ1 H1 _ _ Q I1 rr q1
def Ga (K:PySem.W.Frag) (n:Nat) (t:R5):TG:=fun v σ H Q=>∃a xs,v=.ref a/\cG K H a xs/\xs.length=n/\t xs σ H Q
theorem Xo {es:List Expr} {k:Nat} {t:R5} {n:Nat} (hc:X.calm=true) (h:Yu X es t)
  (hn:(assignEach es X.env).length=n:=by rfl) (hst:(assignEach es X.env).findIdx? (·.1)=none:=by rfl):PG X (.Tuple es k pos) (Ga X.K n t):=by
 refine .mk ?_
 intro pins s σ H v u Q I r hw
 obtain⟨a,xs,e1,hq,hl,hw⟩:=hw
 subst e1
 cases r
 obtain⟨its,rv,ht,hz⟩:=I.tuple hq
 refine assign_Tuple_tuple (I.ok.hd hc) ht (by simp[hn,<- hl,rv.length]) hst fun h' hx=>?_
 have I1:Inv X pins σ H { s with heap:=h' }:=I.kept (t':=s.toks) fun b o e=>hx b o (fK (b_ e)) e
 exact h pins _ σ H xs _ Q I1 (by simpa using rv) hw
def aaB (to ti:TE) (t:Oa):TG:=fun v σ H Q=>to σ H fun o H1=>ti σ H1 fun i H2=>t o i v H2 fun H3=>Q σ H3
theorem vX {o i:Expr} {to ti:TE} {t:Oa} (ho:PE X o to) (hi:PE X i ti) (hs:R7 X t)
  (ha:∀v,assign (.Subscript o i pos) X.env v=(do
   let ov <- holding [v] (eval o X.env)
   let iv <- holding [v,ov] (eval i X.env)
   standAt pos
   holding [v,ov,iv] (setItem ov iv v)
   release [v,ov,iv] []):=by intro _; rfl):PG X (.Subscript o i pos) (aaB to ti t):=by
 refine .mk ?_
 intro pins s σ H v u Q I r h
 rw[ha]
 refine aQ (rQ (cQ (ho pins s σ H _ I h) fun ov s1 qx=>?_))
 obtain⟨x,H1,I1,r1,q1⟩:=qx
 refine aQ (rQ (cQ (hi pins s1 σ H1 _ I1 q1) fun iv s2 qx=>?_))
 obtain⟨y,H2,I2,r2,q2⟩:=qx
 refine aQ (Bv (aQ (rQ (cQ (hs pins s2 σ H2 x y v ov iv u _ I2 r1 r2 r q2) fun _ s3 qx=>?_))))
 obtain⟨H3,I3,q3⟩:=qx
 exact wpAny_release ⟨σ,H3,I3,q3⟩
def xW (te:TE) (g:TG):TS:=fun D σ H=>te σ H fun x H1=>g x σ H1 D.nx
theorem cU {tg e:Expr} {te:TE} {g:TG} (he:PE X e te) (hg:PG X tg g) (hs:swapsWithSole [tg] e pos.line X.env=pure false:=by rfl) (hw:swappedStores [tg] e X.env=pure none:=by rfl)
  (h1:(assignEach [tg] X.env).map (·.2)=[assign tg X.env]:=by rfl):PS X (.Assign [tg] e pos) (xW te g):=by
 refine .mk ?_
 intro pins s σ H D I h
 refine wpAny_Assign_stores (cQ (he pins s σ H _ I h) fun v s1 ⟨x,H1,I1,r1,q1⟩=>?_) hs hw
 rw[h1]
 exact cQ (hg pins s1 σ H1 x v _ I1 r1 q1) fun _ s2 q=>q
theorem aW {i:Nat} {x:Str} {e:Expr} {te:TE} {pos':Pos} (hN:X.N.Nodup) (hi:X.N[i]?=some x) (hx:Loc X.env.scope x) (he:PE X e te) (hs:swapsWith e (some (.Name x pos')) pos.line X.env=pure false:=by rfl) (hf:X.fn x=true\/X.env.scope.names.lookup x=some .local:=by first | exact .inl rfl | exact .inr rfl | assumption) :
  PS X (.Assign [.Name x pos'] e pos) (xW te (dG i)):=by
 refine .mk ?_
 intro pins s σ H D I h
 refine wpAny_Assign_Name (cQ (he pins s σ H _ I h) fun v s1 ⟨y,H1,I1,r1,q1⟩=>?_) hs
 exact j9 I1 hN hi hx r1 (fun s2 I2=>⟨_,H1,I2,q1⟩) hf
def Td (i j:Nat) (ta:TA):TS:=fun D σ H=>ta σ H fun vs H1=>∃v w,vs=[v,w]/\D.nx ((σ.set i (some v)).set j (some w)) H1
theorem pF {i j:Nat} {x y:Str} {a b:Expr} {ta:TA} {px py pt:Pos} {kt k2 pt2} (hc:X.calm=true) (hN:X.N.Nodup) (hi:X.N[i]?=some x) (hj:X.N[j]?=some y) (hij:i≠j)
  (hx:X.env.scope.names.lookup x=some .local) (hy:X.env.scope.names.lookup y=some .local) (ha:PA X [a,b] ta)
  (hw:swappedStores [.Tuple [.Name x px,.Name y py] kt pt] (.Tuple [a,b] k2 pt2) X.env=pure (some [x,y]))
  (hs:swapsWithSole [.Tuple [.Name x px,.Name y py] kt pt] (.Tuple [a,b] k2 pt2) pos.line X.env=pure false:=by rfl) :
  PS X (.Assign [.Tuple [.Name x px,.Name y py] kt pt] (.Tuple [a,b] k2 pt2) pos) (Td i j ta):=by
 refine .mk ?_
 intro pins s σ H D I h
 rw[exec_Assign_arm]
 refine aQ (Bv ?_)
 rw[hs]
 refine aQ (bU ?_)
 rw[bB (by decide)]
 refine aQ (Tuple_ (cQ (ha _ pins s σ H _ I h) fun us s1 qx=>?_))
 obtain⟨vs,H1,I1,r1,q1⟩:=qx
 obtain⟨v,w,e1,q1⟩:=q1
 subst e1
 obtain⟨u1,u2,rfl,rv,Xb⟩:∃u1 u2,us=[u1,u2]/\RelV v u1/\RelV w u2:=by
  cases r1 with
  | cons p q=>
   cases q with
   | cons p' q'=>
    cases q'
    exact⟨_,_,rfl,p,p'⟩
 refine uf ?_ (by show 2<=sizeLine; decide)
 have I2:Inv X pins σ H1 { s1 with heap:=s1.heap.push { cls:=.type "tuple",data:=.seq [u1,u2].toArray } }:=I1.kept (t':=s1.toks) fun b o e=>eO _ e
 rw[hw]
 refine aQ (bU ?_)
 show wpAny (model X.prog X.w) X.A (do rule "assign.swapped-stores"; let items <- unpackItems (.ref s1.heap.objs.size) 2 none; assignInOrder [fun v=>bindName X.env y v,fun v=>bindName X.env x v] items.reverse; pure Flow.next) _ _ _
 refine aQ (qw (aQ (unpackItems_tuple (items:=#[u1,u2]) (I.ok.hd hc) (IsTup.new s1.heap _) fun h' hx'=>?_)))
 have I3:=I2.kept (h':=h') (t':=s1.toks) fun b o e=>hx' b o (fK (b_ e)) e
 show wpAny _ _ (assignInOrder [fun v=>bindName X.env y v,fun v=>bindName X.env x v] [u2,u1] >>= fun _=>pure Flow.next) _ _ _
 refine aQ (assignInOrder_cons (wpAny_bindName (j9 I3 hN hj (.inl hy) Xb (fun s2 I4=>?_) (.inr hy))))
 refine assignInOrder_cons (wpAny_bindName (j9 I4 hN hi (.inl hx) rv (fun s3 I5=>assignInOrder_nil (bU ?_)) (.inr hx)))
 rw[List.set_comm _ _ (Ne.symm hij)] at I5
 exact⟨_,H1,I5,q1⟩
def Zx (i:Nat) (te:TE) (ti:YZ):TS:=fun D σ H=>∃x,σ[i]?=some (some x)/\te σ H fun y H1=>ti x y H1 fun z H2=>D.nx (σ.set i (some z)) H2
theorem vU {i:Nat} {x:Str} {e:Expr} {te:TE} {op:Operator} {ti:YZ} {pos':Pos} (hN:X.N.Nodup) (hi:X.N[i]?=some x) (hx:Loc X.env.scope x) (he:PE X e te) (ho:PIp X op ti) (hf:X.fn x=true\/X.env.scope.names.lookup x=some .local:=by first | exact .inl rfl | exact .inr rfl | assumption) :
  PS X (.AugAssign (.Name x pos') op e pos) (Zx i te ti):=by
 refine .mk ?_
 intro pins s σ H D I h
 obtain⟨v,e1,h⟩:=h
 obtain⟨m,hn,hl⟩:=I.loc
 have vis:Vis X.env.scope x:=by rcases hx with k | k; exact .inl k; exact .inr (.inl k)
 obtain⟨u,r,l⟩:=hl i x v hi e1 vis
 refine wpAny_AugAssign_Name ?_
 have go:wpAny (model X.prog X.w) X.A (eval e X.env) (fun w s₂=>wpAny (model X.prog X.w) X.A (inplaceOp op u w) (fun r s₃=>wpAny (model X.prog X.w) X.A (storeName X.env x r) (fun _=>SP X pins D .next) X.xe s₃) X.xe s₂) X.xe s:=by
  refine cQ (he pins s σ H _ I h) fun w s1 qx=>?_
  obtain⟨y,H1,I1,r1,q1⟩:=qx
  refine cQ (ho pins s1 σ H1 v y u w _ I1 r r1 q1) fun z s2 qx=>?_
  obtain⟨zv,H2,I2,r2,q2⟩:=qx
  exact j9 I2 hN hi hx r2 (fun s3 I3=>⟨_,H2,I3,q2⟩) hf
 rcases l with⟨hk,hm⟩ | ⟨hk,c,hc,hcell⟩
 ·exact wpAny_loadName_local I.ok.kind hk hn hm go
 ·rcases hk with hk | hk
  ·exact wpAny_loadName_cell I.ok.kind hk hc hcell go
  ·rcases hx with k | k
   ·have:X.env.scope.names.lookup x=some .free:=hk
    rw[k] at this; cases this
   ·have:X.env.scope.names.lookup x=some .free:=hk
    rw[k] at this; cases this
def VM (to ti te:TE) (Tc:V->V->Hp->VK->Prop) (tip:YZ) (S_:Oa):TS:=fun D σ H=>to σ H fun o H1=>ti σ H1 fun i H2=>Tc o i H2 fun x H3=>te σ H3 fun y H4=>tip x y H4 fun z H5=>S_ o i z H5 fun H6=>D.nx σ H6
def aaT (X:Cx) (t:V->V->Hp->VK->Prop):Prop:=
 ∀(pins:List (Addr×Obj)) (s:Shared) (σ:St) (H:Hp) (o i:V) (ov iv:Value) (Q:VK),Inv X pins σ H s->RelV o ov->RelV i iv->t o i H Q ->
  wpAny (model X.prog X.w) X.A (getItem ov iv) (EP X pins σ Q) X.xe s
theorem T9 {o i e:Expr} {to ti te:TE} {Tc:V->V->Hp->VK->Prop} {tip:YZ} {S_:Oa} {op:Operator} {tpos:Pos} (ho:PE X o to) (hi:PE X i ti) (hg:aaT X Tc) (he:PE X e te) (hp:PIp X op tip) (hs:R7 X S_)
  (ha:∀ov iv new,augStore i ov iv new=(do holding [new,ov,iv] (setItem ov iv new); release [new,ov,iv] []; pure .next):=by intros; rfl):PS X (.AugAssign (.Subscript o i tpos) op e pos) (VM to ti te Tc tip S_):=by
 refine .mk ?_
 intro pins s σ H D I h
 refine wpAny_AugAssign_SubscriptAny (cQ (ho pins s σ H _ I h) fun ov s1 ⟨x1,H1,I1,r1,q1⟩=>?_) ha
 refine cQ (hi pins s1 σ H1 _ I1 q1) fun iv s2 qx=>?_
 obtain⟨x2,H2,I2,r2,q2⟩:=qx
 refine cQ (hg pins s2 σ H2 x1 x2 ov iv _ I2 r1 r2 q2) fun old s3 qx=>?_
 obtain⟨x3,H3,I3,r3,q3⟩:=qx
 refine cQ (he pins s3 σ H3 _ I3 q3) fun v s4 qx=>?_
 obtain⟨x4,H4,I4,r4,q4⟩:=qx
 refine cQ (hp pins s4 σ H4 x3 x4 old v _ I4 r3 r4 q4) fun new s5 qx=>?_
 obtain⟨x5,H5,I5,r5,q5⟩:=qx
 exact cQ (hs pins s5 σ H5 x1 x2 x5 ov iv new _ I5 r1 r2 r5 q5) fun _ s6 ⟨H6,I6,q6⟩=>⟨σ,H6,I6,q6⟩
def ipI (f:Int->Int->Int):YZ:=fun x y H Q=>∃i j,x=.int i/\y=.int j/\Q (.int (f i j)) H
theorem Ib:PIp X .Add (ipI fun i j=>i+j):=by
 intro pins s σ H x y v u Q I r1 r2 h
 obtain⟨i,j,e1,e2,q⟩:=h
 subst e1; subst e2
 obtain⟨t,rfl⟩:=r1
 obtain⟨t',rfl⟩:=r2
 exact iadd_int ⟨.int _,H,I.tok _,⟨_,rfl⟩,q⟩
theorem Ia:PIp X .Sub (ipI fun i j=>i-j):=by
 intro pins s σ H x y v u Q I r1 r2 h
 obtain⟨i,j,e1,e2,q⟩:=h
 subst e1; subst e2
 obtain⟨t,rfl⟩:=r1
 obtain⟨t',rfl⟩:=r2
 exact isub_int ⟨.int _,H,I.tok _,⟨_,rfl⟩,q⟩
end
section
variable {X:Cx} {pos:Pos}
def WT (c:TT) (tb:TS):TS:=fun D σ H=>∃W:Nat->St->Hp->Prop,(∃m,W m σ H)/\∀m σ H,W m σ H ->
 c σ H fun b H1=>if b=true then ∃N:St->Hp->Prop,(∀σ' H',N σ' H'->∃m',m'<m/\W m' σ' H')/\tb { D with nx:=N,ct:=N,bk:=D.nx } σ H1 else D.nx σ H1
theorem vQ {c:Expr} {body:List Stmt} {tc:TT} {tb:TS} (hp:PassesOwn (model X.prog X.w) X.A X.env X.xe) (hc:PT X c tc) (hb:yI X body tb):PS X (.While c body [] pos) (WT tc tb):=by
 refine .mk ?_
 intro pins s σ H D I h
 obtain⟨W,⟨m0,w0⟩,turn⟩:=h
 refine wpAny_While (codeAny_whileLoop (fun n s'=>∃σ' H',Inv X pins σ' H' s'/\W n σ' H') ?_ m0 ⟨σ,H,I,w0⟩)
 rintro n s1 ⟨σ1,H1,I1,w1⟩
 refine Ht hp (cQ (hc pins s1 σ1 H1 _ I1 (turn n σ1 H1 w1)) fun b s2 qx=>?_)
 obtain⟨H2,I2,q2⟩:=qx
 cases b with
 | true=>
  obtain⟨N,hN,q2⟩:=q2
  rw[aL rfl]
  refine Ht hp (cQ (hb pins s2 σ1 H2 _ I2 q2) fun f s3 q3=>?_)
  cases f with
  | next=>
   obtain⟨σ3,H3,I3,n3⟩:=q3
   obtain⟨m',hm,w3⟩:=hN σ3 H3 n3
   exact⟨m',hm,σ3,H3,I3,w3⟩
  | cont=>
   obtain⟨σ3,H3,I3,n3⟩:=q3
   obtain⟨m',hm,w3⟩:=hN σ3 H3 n3
   exact⟨m',hm,σ3,H3,I3,w3⟩
  | brk=>exact q3
  | ret v=>exact q3
 | false=>
  rw[bB kE]
  exact zK ⟨σ1,H2,I2,q2⟩
end
structure It where
 go:Nat->Hp->Prop
 xU:Nat->Hp->V->Hp->Prop
 stop:Nat->Hp->Prop
def gG (X:Cx) (pins:List (Addr×Obj)) (H:Hp) (b:Addr):Prop:=
 H b=none/\b≠X.env.locals/\b∉X.fs/\(b∈X.ex\/X.s₀.heap.objs.size<=b)/\(∀x c,X.env.cells.lookup x=some c->c≠b)/\∀p∈X.pn++pins,p.1≠b
theorem Inv.uq {X:Cx} {pins:List (Addr×Obj)} {σ:St} {H H':Hp} {s:Shared} {b:Addr} (I:Inv X pins σ H s) (hb:s.heap.objs.size<=b) (hn:H' b=none):gG X pins H' b:=by
 refine⟨hn,Eo (kI I.lt hb),I.aca hb,.inr (oG I.sz hb),fun x c e z=>?_,fun p hp z=>?_⟩
 ·obtain⟨v,q⟩:=I.cell x c e
  exact absurd (kI q.lt (by rw[z]; exact hb)) (rP _)
 ·exact absurd (kI (b_ (I.pin p hp).1) (by rw[z]; exact hb)) (rP _)
structure Turn (P:Program) (w:World) (K:PySem.W.Frag) (tg:Expr) (J:It) (fp:List Addr) (it:Addr) (tn:Nat->Heap->Prop):Prop where
 mem:it∈fp
 obj:∀i h,tn i h->∀b∈fp,∃o,h.get? b=some o/\∀v,o.data≠.cell v
 keep:∀i h h',tn i h->(∀b∈fp,∀o,h.get? b=some o->h'.get? b=some o)->tn i h'
 item:∀(X:Cx),X.prog=P->X.w=w->X.K=K->X.calm=true->∀(i:Nat) (pins:List (Addr×Obj)) (s:Shared) (σ:St) (H:Hp) (E:Value->Shared->Prop),Inv X pins σ H s->(∀b∈fp,gG X pins H b)->tn i s.heap->J.go i H ->
  wpAny (model P w) X.A (pyNext (.ref it)) (fun r s1=>∃u,r=some u /\
   wpAny (model P w) X.A (letOwnedTupleGo tg (.ref it) u) (fun _ s2=>∃x H',Inv X pins σ H' s2/\RelV x u/\J.xU i H x H'/\tn (i+1) s2.heap/\∀b∈fp,H' b=none) E s1) E s
 done:∀(X:Cx),X.prog=P->X.w=w->X.K=K->X.calm=true->∀(i:Nat) (pins:List (Addr×Obj)) (s:Shared) (σ:St) (H:Hp) (E:Value->Shared->Prop),Inv X pins σ H s->(∀b∈fp,gG X pins H b)->tn i s.heap->J.stop i H ->
  wpAny (model P w) X.A (pyNext (.ref it)) (fun r s1=>r=none/\Inv X pins σ H s1) E s
 self:∀(A:Around) (i:Nat) (s:Shared) (Q:Value->Shared->Prop) (E:Value->Shared->Prop),tn i s.heap->Q (.ref it) s->wpAny (model P w) A (pyIter (.ref it)) Q E s
abbrev TI:=St->Hp->(It->Hp->Prop)->Prop
def PIE (X:Cx) (pins:List (Addr×Obj)) (σ:St) (tg:Expr) (R:It->Hp->Prop) (itv:Value) (s2:Shared):Prop:=
 ∃(it:Addr) (fp:List Addr) (tn:Nat->Heap->Prop) (J:It) (H':Hp),itv=.ref it/\Inv X pins σ H' s2/\Turn X.prog X.w X.K tg J fp it tn/\tn 0 s2.heap/\(∀b∈fp,gG X pins H' b)/\R J H'
structure PI (X:Cx) (tg iter:Expr) (wi:TI):Prop where
 mk ::
 go :
 ∀(pins:List (Addr×Obj)) (s:Shared) (σ:St) (H:Hp) (R:It->Hp->Prop),Inv X pins σ H s->wi σ H R ->
  wpAny (model X.prog X.w) X.A (eval iter X.env) (fun v s1=>wpAny (model X.prog X.w) X.A (pyIter v) (PIE X pins σ tg R) X.xe s1) X.xe s
instance {X:Cx} {tg iter:Expr} {wi:TI}:CoeFun (PI X tg iter wi) (fun _=>
 ∀(pins:List (Addr×Obj)) (s:Shared) (σ:St) (H:Hp) (R:It->Hp->Prop),Inv X pins σ H s->wi σ H R ->
  wpAny (model X.prog X.w) X.A (eval iter X.env) (fun v s1=>wpAny (model X.prog X.w) X.A (pyIter v) (PIE X pins σ tg R) X.xe s1) X.xe s):=⟨PI.go⟩
theorem Kr {M:Model} {A:Around} {E:Value->Shared->Prop} {s:Shared} {tg:Expr} {it:Addr} {u:Value} {o:Obj} {n:String} {vs:Array Value} {Q:Unit->Shared->Prop} (ho:s.heap.get? it=some o) (hc:o.cls=.type n) (hd:o.data=.fields vs)
  (hn:["enumerate","zip","dict_itemiterator","dict_reverseitemiterator","odict_iterator","itertools.zip_longest","itertools.pairwise"].contains n=false) (hQ:Q () s):wpAny M A (letOwnedTupleGo tg (.ref it) u) Q E s:=by
 unfold letOwnedTupleGo
 cases tg <;> first
  | exact bU hQ
  | (cases u <;> first
    | exact bU hQ
    | (refine aQ (wpAny_load ho ?_)
       rw[hc,hd]
       show wpAny M A (if(["enumerate","zip","dict_itemiterator","dict_reverseitemiterator","odict_iterator","itertools.zip_longest","itertools.pairwise"].contains n&&vs[0]?==some (rawInt _))=true then _ else _) Q E s
       rw[bB (by intro h; rw[hn,Bool.false_and] at h; cases h)]
       exact bU hQ))
def Wu (K:PySem.W.Frag) (a:Addr):It:=
 ⟨fun i H=>∃xs x,dX K H a xs/\xs[i]?=some x,fun i H x H'=>H'=H/\∀xs,dX K H a xs->xs[i]?=some x,fun i H=>∃xs,dX K H a xs/\xs.length<=i⟩
def Wt (K:PySem.W.Frag) (a:Addr):It:=
 ⟨fun i H=>∃xs x,cG K H a xs/\xs[i]?=some x,fun i H x H'=>H'=H/\∀xs,cG K H a xs->xs[i]?=some x,fun i H=>∃xs,cG K H a xs/\xs.length<=i⟩
def Ot (lo:Int) (n:Nat):It:=⟨fun i _=>i<n,fun i H x H'=>H'=H/\x=.int (lo+i),fun i _=>n<=i⟩
theorem Lf {P:Program} {w:World} {K:PySem.W.Frag} {tg:Expr} (a it:Addr):Turn P w K tg (Wu K a) [it] it (fun i h=>h.IsListIter it a i) where
 mem:=by simp
 obj:=fun i h st b hb=>by
  have e:b=it:=by simpa using hb
  subst e
  obtain⟨o,e,c,d⟩:=st
  exact⟨o,e,fun v z=>by rw[d] at z; cases z⟩
 keep:=fun i h h' st k=>st.at fun o e=>k it (by simp) o e
 item:=by
  intro X hP hw hK hc i pins s σ H E I hf st hg
  subst hP hw hK
  obtain⟨xs,x,hq,hx⟩:=hg
  obtain⟨its,rv,p,hz⟩:=I.list hq
  obtain⟨u,hu,ru⟩:=rv.get hx
  obtain⟨f0,f1,f2,f3,f4,f5⟩:=hf it (by simp)
  refine wpAny_pyNext_list_item st p.isList (x:=u) (by simpa using hu) fun h' st' sb=>?_
  have I1:Inv X pins σ H { s with heap:=h' }:=I.turned (t':=s.toks) (fun b o hb e=>(sb.2 b hb).trans e) f0 f1 f3 f4 f5
  obtain⟨o,e,c,d⟩:=id st'
  exact⟨u,rfl,Kr (s:={ s with heap:=h' }) e c d (by decide) ⟨x,H,I1,ru,⟨rfl,fun ys hy=>by rw[I.wG hy hq]; exact hx⟩,st',fun b hb=>(hf b hb).1⟩⟩
 done:=by
  intro X hP hw hK hc i pins s σ H E I hf st hg
  subst hP hw hK
  obtain⟨xs,hq,hx⟩:=hg
  obtain⟨its,rv,p,hz⟩:=I.list hq
  obtain⟨f0,f1,f2,f3,f4,f5⟩:=hf it (by simp)
  have hl:=rv.length
  exact wpAny_pyNext_list_end (I.ok.hd hc) st p.isList (by simp; omega) fun h' eb=>⟨rfl,I.turned (t':=s.toks) (fun b o hb e=>eb b o hb e) f0 f1 f3 f4 f5⟩
 self:=fun _ _ _ _ _ st h=>wpAny_pyIter_listiter st h
theorem GX {P:Program} {w:World} {K:PySem.W.Frag} {tg:Expr} (a it:Addr):Turn P w K tg (Wt K a) [it] it (fun i h=>h.IsTupleIter it a i) where
 mem:=by simp
 obj:=fun i h st b hb=>by
  have e:b=it:=by simpa using hb
  subst e
  obtain⟨o,e,c,d⟩:=st
  exact⟨o,e,fun v z=>by rw[d] at z; cases z⟩
 keep:=fun i h h' st k=>st.at fun o e=>k it (by simp) o e
 item:=by
  intro X hP hw hK hc i pins s σ H E I hf st hg
  subst hP hw hK
  obtain⟨xs,x,hq,hx⟩:=hg
  obtain⟨its,rv,p,hz⟩:=I.tuple hq
  obtain⟨u,hu,ru⟩:=rv.get hx
  obtain⟨f0,f1,f2,f3,f4,f5⟩:=hf it (by simp)
  refine wpAny_pyNext_tuple_item st (show s.heap.IsTuple a its.toArray from p) (x:=u) (by simpa using hu) fun h' st' sb=>?_
  have I1:Inv X pins σ H { s with heap:=h' }:=I.turned (t':=s.toks) (fun b o hb e=>(sb.2 b hb).trans e) f0 f1 f3 f4 f5
  obtain⟨o,e,c,d⟩:=id st'
  exact⟨u,rfl,Kr (s:={ s with heap:=h' }) e c d (by decide) ⟨x,H,I1,ru,⟨rfl,fun ys hy=>by rw[I.rE hy hq]; exact hx⟩,st',fun b hb=>(hf b hb).1⟩⟩
 done:=by
  intro X hP hw hK hc i pins s σ H E I hf st hg
  subst hP hw hK
  obtain⟨xs,hq,hx⟩:=hg
  obtain⟨its,rv,p,hz⟩:=I.tuple hq
  obtain⟨f0,f1,f2,f3,f4,f5⟩:=hf it (by simp)
  have hl:=rv.length
  exact wpAny_pyNext_tuple_end (I.ok.hd hc) st (show s.heap.IsTuple a its.toArray from p) (by simp; omega) fun h' eb=>⟨rfl,I.turned (t':=s.toks) (fun b o hb e=>eb b o hb e) f0 f1 f3 f4 f5⟩
 self:=fun _ _ _ _ _ st h=>wpAny_pyIter_tupleiter st h
theorem GZ {P:Program} {w:World} {K:PySem.W.Frag} {tg:Expr} (it:Addr) (lo:Int) (n:Nat):Turn P w K tg (Ot lo n) [it] it (fun i h=>IsRangeIter h it (lo+(i:Nat)*1) ((n:Int)-(i:Nat)) 1) where
 mem:=by simp
 obj:=fun i h st b hb=>by
  have e:b=it:=by simpa using hb
  subst e
  exact⟨_,st,fun v z=>by
   have z':Data.fields _=Data.cell v:=z
   cases z'⟩
 keep:=fun i h h' st k=>k it (by simp) _ st
 item:=by
  intro X hP hw hK hc i pins s σ H E I hf st hg
  subst hP hw hK
  obtain⟨f0,f1,f2,f3,f4,f5⟩:=hf it (by simp)
  have W:=Walks.range (prog:=X.prog) (w:=X.w) (I.ok.hd hc) it lo 1 n
  refine W.item i s _ _ hg st fun v h' tk hv st' kk=>?_
  obtain⟨t,rfl⟩:=hv
  have I1:Inv X pins σ H { s with heap:=h',toks:=tk }:=I.turned (fun b o hb e=>kk b o (by simpa using hb) e) f0 f1 f3 f4 f5
  refine⟨_,rfl,Kr (s:={ s with heap:=h',toks:=tk }) (n:="range_iterator") st' rfl rfl (by decide) ⟨.int (lo+i),H,I1,⟨t,?_⟩,⟨rfl,rfl⟩,st',fun b hb=>(hf b hb).1⟩⟩
  rw[Int.mul_one]
 done:=by
  intro X hP hw hK hc i pins s σ H E I hf st hg
  subst hP hw hK
  obtain⟨f0,f1,f2,f3,f4,f5⟩:=hf it (by simp)
  exact wpAny_pyNext_range_end (I.ok.hd hc) st (by have:n<=i:=hg; omega) fun h' eb=>⟨rfl,I.turned (t':=s.toks) (fun b o hb e=>eb b o hb e) f0 f1 f3 f4 f5⟩
 self:=fun _ _ _ _ _ st h=>Qs st h
section
variable {X:Cx} {tg:Expr}
def wQ (K:PySem.W.Frag) (tl:TE):TI:=fun σ H R=>tl σ H fun x H1=>∃a,x=.ref a/\(∃xs,dX K H1 a xs)/\R (Wu K a) H1
def wO (K:PySem.W.Frag) (tl:TE):TI:=fun σ H R=>tl σ H fun x H1=>∃a,x=.ref a/\(∃xs,cG K H1 a xs)/\R (Wt K a) H1
theorem Uc {l:Expr} {tl:TE} (hl:PE X l tl):PI X tg l (wQ X.K tl):=by
 refine .mk ?_
 intro pins s σ H R I h
 refine cQ (hl pins s σ H _ I h) fun v s1 qx=>?_
 obtain⟨x,H1,I1,r1,q1⟩:=qx
 obtain⟨a,e,⟨xs,hq⟩,q⟩:=q1
 subst e
 cases r1
 obtain⟨its,rv,p,hz⟩:=I1.list hq
 refine Hu p.isList ?_
 refine⟨s1.heap.objs.size,[s1.heap.objs.size],_,_,H1,rfl,I1.kept (t':=s1.toks) fun b o e=>eO _ e,Lf a _,⟨_,dM _ rfl,rfl,rfl⟩,fun b hb=>?_,q⟩
 have e:b=s1.heap.objs.size:=by simpa using hb
 subst e
 exact I1.uq (bF _) (I1.hok.fresh (bF _))
theorem QD {l:Expr} {tl:TE} (hl:PE X l tl):PI X tg l (wO X.K tl):=by
 refine .mk ?_
 intro pins s σ H R I h
 refine cQ (hl pins s σ H _ I h) fun v s1 qx=>?_
 obtain⟨x,H1,I1,r1,q1⟩:=qx
 obtain⟨a,e,⟨xs,hq⟩,q⟩:=q1
 subst e
 cases r1
 obtain⟨its,rv,p,hz⟩:=I1.tuple hq
 refine Lx (show s1.heap.IsTuple a its.toArray from p) ?_
 refine⟨s1.heap.objs.size,[s1.heap.objs.size],_,_,H1,rfl,I1.kept (t':=s1.toks) fun b o e=>eO _ e,GX a _,⟨_,dM _ rfl,rfl,rfl⟩,fun b hb=>?_,q⟩
 have e:b=s1.heap.objs.size:=by simpa using hb
 subst e
 exact I1.uq (bF _) (I1.hok.fresh (bF _))
theorem Qn {pins:List (Addr×Obj)} {σ:St} {H:Hp} {s:Shared} {R:It->Hp->Prop} {E:Value->Shared->Prop} {lo hi:Int} {t u v:Tok} {tk:Nat} (I:Inv X pins σ H s) (h1:-(2 ^ 62)<=lo) (h2:lo<2 ^ 62) (h3:-(2 ^ 62)<=hi) (h4:hi<2 ^ 62)
  (q:R (Ot lo (hi-lo).toNat) H):wpAny (model X.prog X.w) X.A (pyIter (.ref s.heap.objs.size)) (PIE X pins σ tg R) E { s with heap:=s.heap.push { cls:=.type "range",data:=.fields #[.int lo t,.int hi u,.int 1 v] },toks:=tk }:=by
 refine wpAny_pyIter_range (IsRange.new ..) (small_one h1 h2 h3 h4) ?_
 have I1:Inv X pins σ H { s with heap:=s.heap.push { cls:=.type "range",data:=.fields #[.int lo t,.int hi u,.int 1 v] },toks:=tk }:=I.kept fun b o e=>eO _ e
 refine⟨(s.heap.push { cls:=.type "range",data:=.fields #[.int lo t,.int hi u,.int 1 v] }).objs.size,[(s.heap.push { cls:=.type "range",data:=.fields #[.int lo t,.int hi u,.int 1 v] }).objs.size],_,_,H,rfl,
  I1.kept (t':=tk) fun b o e=>eO _ e,GZ _ lo (hi-lo).toNat,?_,fun b hb=>?_,q⟩
 ·have e1:lo+((0:Nat):Int)*1=lo:=by simp
  have e2:(((hi-lo).toNat:Nat):Int)-((0:Nat):Int)=Builtin.Range.rangeSize lo hi 1:=by rw[rangeSize_one]; split <;> omega
  show IsRangeIter _ _ (lo+((0:Nat):Int)*1) ((((hi-lo).toNat:Nat):Int)-((0:Nat):Int)) 1
  rw[e1,e2]
  exact dM _ rfl
 ·have e:b=(s.heap.push { cls:=.type "range",data:=.fields #[.int lo t,.int hi u,.int 1 v] }).objs.size:=by simpa using hb
  subst e
  exact I1.uq (bF _) (I1.hok.fresh (bF _))
def Aa (ta:TA):TI:=fun σ H R=>ta σ H fun vs H1=>∃j:Int,vs=[.int j]/\-(2 ^ 62)<=j/\j<2 ^ 62/\R (Ot 0 j.toNat) H1
theorem cY {a:Expr} {ta:TA} {p pos:Pos} (hg:Gl X "range") (hm:X.mg "range" = none) (ha:PA X [a] ta) (hs:starEach [a] X.env=[(false,eval a X.env)]:=by rfl):PI X tg (.Call (.Name "range" p) [a] [] pos) (Aa ta):=by
 refine .mk ?_
 intro pins s σ H R I h
 refine Call_ (iR I hg hm boot_range (PyProof.Rows.callWith_type1 (cQ (ha pos pins s σ H _ I h) fun us s1 ⟨vs,H1,I1,r1,q1⟩=>?_) hs rfl))
 obtain⟨j,e,q1,q2,q⟩:=q1
 subst e
 cases r1 with
 | cons r rr=>
  cases rr
  obtain⟨t,rfl⟩:=r
  exact call_range_1 (Qn I1 (by omega) (by omega) q1 q2 (by simpa using q))
def Dw (wi:TI) (g:TG) (tb:TS):TS:=fun D σ H=>wi σ H fun J H1=>∃W:Nat->Nat->St->Hp->Prop,(∃m,W 0 m σ H1)/\∀i m σ H,W i m σ H ->
 (J.stop i H/\D.nx σ H)\/(J.go i H/\∃N:St->Hp->Prop,(∀σ' H',N σ' H'->∃m',m'<m/\W (i+1) m' σ' H')/\∀x H',J.xU i H x H'->g x σ H' fun σ2 H2=>tb { D with nx:=N,ct:=N,bk:=D.nx } σ2 H2)
def BR (fp:List Addr) (h:Heap):List (Addr×Obj):=fp.filterMap fun b=>(h.get? b).map fun o=>(b,o)
theorem dz {fp:List Addr} {h:Heap} {b:Addr} {o:Obj} (hb:b∈fp) (e:h.get? b=some o):(b,o)∈BR fp h:=List.mem_filterMap.mpr ⟨b,hb,by rw[e]; rfl⟩
theorem MF {fp:List Addr} {h:Heap} {p:Addr×Obj} (hp:p∈BR fp h):p.1∈fp/\h.get? p.1=some p.2:=by
 obtain⟨b,hb,e⟩:=List.mem_filterMap.mp hp
 cases q:h.get? b with
 | none=>rw[q] at e; cases e
 | some o=>
  rw[q] at e
  have e':(b,o)=p:=Option.some.inj e
  subst e'
  exact⟨hb,q⟩
theorem Inv.pinned {pins:List (Addr×Obj)} {σ:St} {H:Hp} {s:Shared} {fp:List Addr} (I:Inv X pins σ H s) (hf:∀b∈fp,gG X pins H b) (ho:∀b∈fp,∃o,s.heap.get? b=some o/\∀v,o.data≠.cell v):Inv X (pins++BR fp s.heap) σ H s:=
 I.JN fun p hp=>(oH.mp hp).elim (fun z=>I.pin p (iY _ z)) fun z=>by
  obtain⟨hb,e⟩:=MF z
  obtain⟨f0,f1,f2,_⟩:=hf p.1 hb
  obtain⟨o,e',d⟩:=ho p.1 hb
  rw[e] at e'; cases e'
  exact⟨e,f0,f1,f2,d⟩
theorem Inv.iz {pins pl:List (Addr×Obj)} {σ:St} {H:Hp} {s:Shared} (I:Inv X (pins++pl) σ H s):Inv X pins σ H s:=I.JN fun p hp=>I.pin p (iY _ (List.mem_append_left _ hp))
theorem g8 {iter:Expr} {body:List Stmt} {wi:TI} {g:TG} {tb:TS} {pos:Pos} (hp:PassesOwn (model X.prog X.w) X.A X.env X.xe) (hc:X.calm=true) (hi:PI X tg iter wi) (hg:PG X tg g) (hb:yI X body tb)
  (hs:∀x,foldedSetIterable iter X.env x=pure x:=by intro _; rfl):PS X (.For tg iter body [] pos) (Dw wi g tb):=by
 refine .mk ?_
 intro pins s σ H D I h
 refine wpAny_For (cQ (hi pins s σ H _ I h) fun v s1 h1=>cQ h1 fun itv s2 h2=>?_) hs
 obtain⟨it,fp,tn,J,H2,e,I2,T,st2,f2,W,⟨m0,w0⟩,turn⟩:=h2
 subst e
 have stat:∀{H':Hp},(∀b∈fp,H' b=none)->∀b∈fp,gG X pins H' b:=fun hn b hb=>⟨hn b hb,(f2 b hb).2⟩
 refine codeAny_forLoop_any (fun n s'=>∃i σ' H',Inv X pins σ' H' s'/\tn i s'.heap/\(∀b∈fp,H' b=none)/\W i n σ' H') ?_ m0 ⟨0,σ,H2,I2,st2,fun b hb=>(f2 b hb).1,w0⟩
 rintro n s3 ⟨i,σ3,H3,I3,st3,fr3,w3⟩
 rcases turn i n σ3 H3 w3 with⟨stop,qn⟩ | ⟨go,N,hN,step⟩
 ·refine Ht hp (cQ (T.done X rfl rfl rfl hc i pins s3 σ3 H3 X.xe I3 (stat fr3) st3 stop) fun r s4 qx=>?_)
  obtain⟨hr,I4⟩:=qx
  subst hr
  exact zK ⟨σ3,H3,I4,qn⟩
 ·refine Ht hp (cQ (T.item X rfl rfl rfl hc i pins s3 σ3 H3 X.xe I3 (stat fr3) st3 go) fun r s4 qx=>?_)
  obtain⟨u,hr,h4⟩:=qx
  subst hr
  refine Ht hp (cQ h4 fun _ s5 qx=>?_)
  obtain⟨x,H5,I5,r5,y5,Tj,Yg⟩:=qx
  have I5':=I5.pinned (stat Yg) (T.obj _ _ Tj)
  refine Ht hp (cQ (hg _ s5 σ3 H5 x u _ I5' r5 (step x H5 y5)) fun _ s6 qx=>?_)
  obtain⟨σ6,H6,I6,q6⟩:=qx
  refine Ht hp (cQ (hb _ s6 σ6 H6 _ I6 q6) fun f s7 q7=>?_)
  have again:∀{σ7:St} {H7:Hp},Inv X (pins++BR fp s5.heap) σ7 H7 s7->N σ7 H7->∃m,m<n/\∃i σ' H',Inv X pins σ' H' s7/\tn i s7.heap/\(∀b∈fp,H' b=none)/\W i m σ' H':=fun {σ7 H7} I7 n7=>by
   obtain⟨m',hm,w7⟩:=hN σ7 H7 n7
   refine⟨m',hm,i+1,σ7,H7,I7.iz,T.keep _ _ _ Tj fun b hb o e=>(I7.pin (b,o) (iY _ (iY _ (dz hb e)))).1,fun b hb=>?_,w7⟩
   obtain⟨o,e,d⟩:=T.obj _ _ Tj b hb
   exact(I7.pin (b,o) (iY _ (iY _ (dz hb e)))).2.1
  cases f with
  | next=>obtain⟨σ7,H7,I7,n7⟩:=q7; exact again I7 n7
  | cont=>obtain⟨σ7,H7,I7,n7⟩:=q7; exact again I7 n7
  | brk=>obtain⟨σ7,H7,I7,q7⟩:=q7; exact⟨σ7,H7,I7.iz,q7⟩
  | ret v=>obtain⟨x7,σ7,H7,I7,r7,q7⟩:=q7; exact⟨x7,σ7,H7,I7.iz,r7,q7⟩
end
theorem Ry {K:PySem.W.Frag} {a:Addr} {xs:List V} {g:TG} {tb:TS} {D:Ends} {σ:St} {H:Hp} (Pv:Nat->St->Hp->Prop) (h0:Pv 0 σ H) (hl:∀i σ H,i<=xs.length->Pv i σ H->dX K H a xs)
  (hs:∀i x σ H,xs[i]?=some x->Pv i σ H->g x σ H fun σ2 H2=>tb { D with nx:=Pv (i+1),ct:=Pv (i+1),bk:=D.nx } σ2 H2) (hd:∀σ H,Pv xs.length σ H->D.nx σ H) :
  ∃W:Nat->Nat->St->Hp->Prop,(∃m,W 0 m σ H)/\∀i m σ H,W i m σ H ->
   ((Wu K a).stop i H/\D.nx σ H)\/((Wu K a).go i H/\∃N:St->Hp->Prop,(∀σ' H',N σ' H'->∃m',m'<m/\W (i+1) m' σ' H')/\∀x H',(Wu K a).xU i H x H'->g x σ H' fun σ2 H2=>tb { D with nx:=N,ct:=N,bk:=D.nx } σ2 H2):=by
 refine⟨fun i m σ H=>m=xs.length-i/\i<=xs.length/\Pv i σ H,⟨xs.length,by simp,fQ _,h0⟩,?_⟩
 rintro i m σ H ⟨rfl,hi,p⟩
 have q:=hl i σ H hi p
 by_cases hlt:i<xs.length
 ·refine .inr ⟨⟨xs,xs[i],q,by simp[hlt]⟩,Pv (i+1),fun σ' H' p'=>⟨xs.length-(i+1),by omega,rfl,hlt,p'⟩,fun x H' y=>?_⟩
  obtain⟨e,y⟩:=y
  subst e
  exact hs i x σ _ (y xs q) p
 ·have e:i=xs.length:=by omega
  subst e
  exact .inl ⟨⟨xs,q,bF _⟩,hd σ H p⟩
theorem Vc {K:PySem.W.Frag} {a:Addr} {xs:List V} {g:TG} {tb:TS} {D:Ends} {σ:St} {H:Hp} (Pv:Nat->St->Hp->Prop) (h0:Pv 0 σ H) (hl:∀i σ H,i<=xs.length->Pv i σ H->cG K H a xs)
  (hs:∀i x σ H,xs[i]?=some x->Pv i σ H->g x σ H fun σ2 H2=>tb { D with nx:=Pv (i+1),ct:=Pv (i+1),bk:=D.nx } σ2 H2) (hd:∀σ H,Pv xs.length σ H->D.nx σ H) :
  ∃W:Nat->Nat->St->Hp->Prop,(∃m,W 0 m σ H)/\∀i m σ H,W i m σ H ->
   ((Wt K a).stop i H/\D.nx σ H)\/((Wt K a).go i H/\∃N:St->Hp->Prop,(∀σ' H',N σ' H'->∃m',m'<m/\W (i+1) m' σ' H')/\∀x H',(Wt K a).xU i H x H'->g x σ H' fun σ2 H2=>tb { D with nx:=N,ct:=N,bk:=D.nx } σ2 H2):=by
 refine⟨fun i m σ H=>m=xs.length-i/\i<=xs.length/\Pv i σ H,⟨xs.length,by simp,fQ _,h0⟩,?_⟩
 rintro i m σ H ⟨rfl,hi,p⟩
 have q:=hl i σ H hi p
 by_cases hlt:i<xs.length
 ·refine .inr ⟨⟨xs,xs[i],q,by simp[hlt]⟩,Pv (i+1),fun σ' H' p'=>⟨xs.length-(i+1),by omega,rfl,hlt,p'⟩,fun x H' y=>?_⟩
  obtain⟨e,y⟩:=y
  subst e
  exact hs i x σ _ (y xs q) p
 ·have e:i=xs.length:=by omega
  subst e
  exact .inl ⟨⟨xs,q,bF _⟩,hd σ H p⟩
theorem Af {lo:Int} {n:Nat} {g:TG} {tb:TS} {D:Ends} {σ:St} {H:Hp} (Pv:Nat->St->Hp->Prop) (h0:Pv 0 σ H)
  (hs:∀i σ H,i<n->Pv i σ H->g (.int (lo+i)) σ H fun σ2 H2=>tb { D with nx:=Pv (i+1),ct:=Pv (i+1),bk:=D.nx } σ2 H2) (hd:∀σ H,Pv n σ H->D.nx σ H) :
  ∃W:Nat->Nat->St->Hp->Prop,(∃m,W 0 m σ H)/\∀i m σ H,W i m σ H ->
   ((Ot lo n).stop i H/\D.nx σ H)\/((Ot lo n).go i H/\∃N:St->Hp->Prop,(∀σ' H',N σ' H'->∃m',m'<m/\W (i+1) m' σ' H')/\∀x H',(Ot lo n).xU i H x H'->g x σ H' fun σ2 H2=>tb { D with nx:=N,ct:=N,bk:=D.nx } σ2 H2):=by
 refine⟨fun i m σ H=>m=n-i/\i<=n/\Pv i σ H,⟨n,by simp,fQ _,h0⟩,?_⟩
 rintro i m σ H ⟨rfl,hi,p⟩
 by_cases hlt:i<n
 ·refine .inr ⟨hlt,Pv (i+1),fun σ' H' p'=>⟨n-(i+1),by omega,rfl,hlt,p'⟩,fun x H' y=>?_⟩
  obtain⟨e,y⟩:=y
  subst e y
  exact hs i σ _ hlt p
 ·have e:i=n:=by omega
  subst e
  exact .inl ⟨bF _,hd σ H p⟩
abbrev R2:=V->V->Hp->VK->Prop
structure rm (X:Cx) (f:Value->Value->Sem Value) (r:R2):Prop where
 mk ::
 go :
 ∀(pins:List (Addr×Obj)) (s:Shared) (σ:St) (H:Hp) (x y:V) (v u:Value) (Q:VK),Inv X pins σ H s->RelV x v->RelV y u->r x y H Q ->
  wpAny (model X.prog X.w) X.A (f v u) (EP X pins σ Q) X.xe s
instance {X:Cx} {f:Value->Value->Sem Value} {r:R2}:CoeFun (rm X f r) (fun _=>
 ∀(pins:List (Addr×Obj)) (s:Shared) (σ:St) (H:Hp) (x y:V) (v u:Value) (Q:VK),Inv X pins σ H s->RelV x v->RelV y u->r x y H Q ->
  wpAny (model X.prog X.w) X.A (f v u) (EP X pins σ Q) X.xe s):=⟨rm.go⟩
structure UnR (X:Cx) (f:Value->Sem Value) (r:V->Hp->VK->Prop):Prop where
 mk ::
 go :
 ∀(pins:List (Addr×Obj)) (s:Shared) (σ:St) (H:Hp) (x:V) (v:Value) (Q:VK),Inv X pins σ H s->RelV x v->r x H Q ->
  wpAny (model X.prog X.w) X.A (f v) (EP X pins σ Q) X.xe s
instance {X:Cx} {f:Value->Sem Value} {r:V->Hp->VK->Prop}:CoeFun (UnR X f r) (fun _=>
 ∀(pins:List (Addr×Obj)) (s:Shared) (σ:St) (H:Hp) (x:V) (v:Value) (Q:VK),Inv X pins σ H s->RelV x v->r x H Q ->
  wpAny (model X.prog X.w) X.A (f v) (EP X pins σ Q) X.xe s):=⟨UnR.go⟩
structure cT (X:Cx) (f:Value) (r:List V->Hp->VK->Prop):Prop where
 mk ::
 go :
 ∀(pins:List (Addr×Obj)) (s:Shared) (σ:St) (H:Hp) (xs:List V) (us:List Value) (Q:VK),Inv X pins σ H s->Vals xs us->r xs H Q ->
  wpAny (model X.prog X.w) X.A (call f us) (EP X pins σ Q) X.xe s
instance {X:Cx} {f:Value} {r:List V->Hp->VK->Prop}:CoeFun (cT X f r) (fun _=>
 ∀(pins:List (Addr×Obj)) (s:Shared) (σ:St) (H:Hp) (xs:List V) (us:List Value) (Q:VK),Inv X pins σ H s->Vals xs us->r xs H Q ->
  wpAny (model X.prog X.w) X.A (call f us) (EP X pins σ Q) X.xe s):=⟨cT.go⟩
def Tf (r:R2) (ta tb:TE):TE:=fun σ H Q=>ta σ H fun x H1=>tb σ H1 fun y H2=>r x y H2 Q
def tUn (r:V->Hp->VK->Prop) (ta:TE):TE:=fun σ H Q=>ta σ H fun x H1=>r x H1 Q
def rI (C:Int->Int->Prop) (g:Int->Int->V):R2:=fun x y H Q=>∃i j,x=.int i/\y=.int j/\C i j/\Q (g i j) H
def T5 (g:Int->Int->V):R2:=fun x y H Q=>∃i j,x=.int i/\y=.int j/\Q (g i j) H
def rU (g:Int->V):V->Hp->VK->Prop:=fun x H Q=>∃i,x=.int i/\Q (g i) H
section
variable {X:Cx} {a b c:Expr} {ta tb tc:TE} {pos:Pos}
theorem Yo (ha:PE X a ta) (hb:PE X b tb) {pins:List (Addr×Obj)} {s:Shared} {σ:St} {H:Hp} {R:V->V->Hp->Prop} (I:Inv X pins σ H s)
  (h:ta σ H fun x H1=>tb σ H1 fun y H2=>R x y H2) {Q:Value->Shared->Prop} {f:Value->Value->Sem Value}
  (hf:∀v u s2 x y H2,Inv X pins σ H2 s2->RelV x v->RelV y u->R x y H2->wpAny (model X.prog X.w) X.A (f v u) Q X.xe s2) :
  wpAny (model X.prog X.w) X.A (eval a X.env) (fun v s₁=>wpAny (model X.prog X.w) X.A (eval b X.env) (fun u s₂=>wpAny (model X.prog X.w) X.A (f v u) Q X.xe s₂) X.xe s₁) X.xe s:=by
 refine cQ (ha pins s σ H _ I h) fun v s1 qx=>?_
 obtain⟨x,H1,I1,r1,q1⟩:=qx
 refine cQ (hb pins s1 σ H1 _ I1 q1) fun u s2 qx=>?_
 obtain⟨y,H2,I2,r2,q2⟩:=qx
 exact hf v u s2 x y H2 I2 r1 r2 q2
theorem aM {op:Operator} {r:R2} (ho:rm X (binaryOp op) r) (ha:PE X a ta) (hb:PE X b tb):PE X (.BinOp a op b pos) (Tf r ta tb):=by
 refine .mk ?_
 intro pins s σ H Q I h
 exact wpAny_BinOp (Yo ha hb I h fun v u s2 x y H2 I2 rx ry q=>ho pins s2 σ H2 x y v u Q I2 rx ry q)
theorem Ff {op:UnaryOp} {r:V->Hp->VK->Prop} (ho:UnR X (unaryOp op) r) (ha:PE X a ta):PE X (.UnaryOp op a pos) (tUn r ta):=by
 refine .mk ?_
 intro pins s σ H Q I h
 exact UnaryOp_ (cQ (ha pins s σ H _ I h) fun v s1 ⟨x,H1,I1,r1,q1⟩=>ho pins s1 σ H1 x v Q I1 r1 q1)
theorem opI {f:Value->Value->Sem Value} {C:Int->Int->Prop} {g:Int->Int->Int}
  (rule:∀(i j:Int) (t u:Tok) (s:Shared) (Q:Value->Shared->Prop) (E:Value->Shared->Prop),C i j->Q (.int (g i j) s.toks) { s with toks:=s.toks+1 }->wpAny (model X.prog X.w) X.A (f (.int i t) (.int j u)) Q E s) :
  rm X f (rI C fun i j=>.int (g i j)):=by
 refine .mk ?_
 intro pins s σ H x y v u Q I rx ry h
 obtain⟨i,j,rfl,rfl,hc,q⟩:=h
 obtain⟨t,rfl⟩:=rx
 obtain⟨t',rfl⟩:=ry
 exact rule i j t t' s _ _ hc ⟨.int (g i j),H,I.tok _,⟨_,rfl⟩,q⟩
theorem aad {f:Value->Value->Sem Value} {g:Int->Int->Int}
  (rule:∀(i j:Int) (t u:Tok) (s:Shared) (Q:Value->Shared->Prop) (E:Value->Shared->Prop),Q (.int (g i j) s.toks) { s with toks:=s.toks+1 }->wpAny (model X.prog X.w) X.A (f (.int i t) (.int j u)) Q E s) :
  rm X f (T5 fun i j=>.int (g i j)):=by
 refine .mk ?_
 intro pins s σ H x y v u Q I rx ry h
 obtain⟨i,j,rfl,rfl,q⟩:=h
 obtain⟨t,rfl⟩:=rx
 obtain⟨t',rfl⟩:=ry
 exact rule i j t t' s _ _ ⟨.int (g i j),H,I.tok _,⟨_,rfl⟩,q⟩
theorem Xx {f:Value->Value->Sem Value} {g:Int->Int->Bool}
  (rule:∀(i j:Int) (t u:Tok) (s:Shared) (Q:Value->Shared->Prop) (E:Value->Shared->Prop),Q (.bool (g i j)) s->wpAny (model X.prog X.w) X.A (f (.int i t) (.int j u)) Q E s) :
  rm X f (T5 fun i j=>.bl (g i j)):=by
 refine .mk ?_
 intro pins s σ H x y v u Q I rx ry h
 obtain⟨i,j,rfl,rfl,q⟩:=h
 obtain⟨t,rfl⟩:=rx
 obtain⟨t',rfl⟩:=ry
 exact rule i j t t' s _ _ ⟨.bl (g i j),H,I,rfl,q⟩
def adL (i j:Int):Prop:=0<j/\j<1073741824
def adK (i j:Int):Prop:=0<=j/\j<=1000000/\i.natAbs<2 ^ 64
def R_ (i j:Int):Prop:=(-(2 ^ 64)<i/\i<2 ^ 64)\/(-(2 ^ 64)<j/\j<2 ^ 64)
theorem R_.ok {i j:Int} (h:R_ i j):IntMulOk i j:=by
 rcases h with⟨h1,h2⟩ | ⟨h1,h2⟩
 ·exact .of_left (intBits_le_64 h1 h2)
 ·exact .of_right (intBits_le_64 h1 h2)
theorem bD:rm X (binaryOp .Add) (T5 fun i j=>.int (i+j)):=aad fun _ _ _ _ _ _ _ q=>add_int q
theorem du:rm X (binaryOp .Sub) (T5 fun i j=>.int (i-j)):=aad fun _ _ _ _ _ _ _ q=>sub_int q
theorem fC:rm X (binaryOp .Mult) (rI R_ fun i j=>.int (i*j)):=opI fun _ _ _ _ _ _ _ hc q=>mul_int q hc.ok
theorem Uj:rm X (binaryOp .FloorDiv) (rI adL fun i j=>.int (i / j)):=opI fun i j _ _ _ _ _ hc q=>by
 have h1:(0:Int)<j:=hc.1
 have h2:j<1073741824:=hc.2
 exact floordiv_int (by omega) (by rw[Int.fdiv_eq_ediv_of_nonneg i (by omega)]; exact q) (.inl (PyProof.noPylong_small (by omega)))
theorem lK:rm X (binaryOp .Mod) (rI (fun _ j=>0<j) fun i j=>.int (i % j)):=opI fun i j _ _ _ _ _ hc q=>by
 have h1:(0:Int)<j:=hc
 exact mod_int' (by omega) (by rw[Int.fmod_eq_emod_of_nonneg i (by omega)]; exact q)
theorem HF:rm X (binaryOp .Pow) (rI adK fun i j=>.int (i ^ j.toNat)):=opI fun _ _ _ _ _ _ _ hc q=>pow_int_small hc.1 hc.2.1 hc.2.2 q
theorem unI {f:Value->Sem Value} {g:Int->Int}
  (rule:∀(i:Int) (t:Tok) (s:Shared) (Q:Value->Shared->Prop) (E:Value->Shared->Prop),Q (.int (g i) s.toks) { s with toks:=s.toks+1 }->wpAny (model X.prog X.w) X.A (f (.int i t)) Q E s) :
  UnR X f (rU fun i=>.int (g i)):=by
 refine .mk ?_
 intro pins s σ H x v Q I rx h
 obtain⟨i,rfl,q⟩:=h
 obtain⟨t,rfl⟩:=rx
 exact rule i t s _ _ ⟨.int (g i),H,I.tok _,⟨_,rfl⟩,q⟩
theorem uR:UnR X (unaryOp .USub) (rU fun i=>.int (-i)):=unI fun _ _ _ _ _ q=>neg_int q
end
def Lq:V->V->Bool
 | .non,.non=>true | .non,.int _=>true | .int _,.non=>true | .non,.bl _=>true | .bl _,.non=>true | .non,.str _=>true | .str _,.non=>true
 | .int _,.int _=>true | .bl _,.bl _=>true | .str _,.str _=>true | .Ol _,.Ol _=>true
 | .int _,.str _=>true | .str _,.int _=>true | .bl _,.str _=>true | .str _,.bl _=>true
 | _,_=>false
def Z4:R2:=fun x y H Q=>Lq x y=true/\Q (.bl (decide (x=y))) H
def Z3:R2:=fun x y H Q=>Lq x y=true/\Q (.bl (!decide (x=y))) H
theorem KC {i j:Int}:decide (V.int i=V.int j)=(i==j):=by
 rw[zy]
 simp
theorem RK {i j:Bool}:decide (V.bl i=V.bl j)=(i==j):=by
 rw[zy]
 simp
theorem Kz {i j:Str}:decide (V.str i=V.str j)=(i==j):=by
 rw[zy]
 simp
theorem KD {i j:Array UInt8}:decide (V.Ol i=V.Ol j)=(i.toList==j.toList):=by
 rw[zy]
 cases i
 cases j
 simp
section
variable {X:Cx} {a b c:Expr} {ta tb tc:TE} {pos:Pos}
theorem bO {pins:List (Addr×Obj)} {σ:St} {H:Hp} {s:Shared} {Q:VK} {k k':Bool} (I:Inv X pins σ H s) (q:Q (.bl k) H) (e:k=k'):EP X pins σ Q (.bool k') s:=by
 subst e
 exact⟨.bl k,H,I,rfl,q⟩
theorem iV:rm X (compareOp .Eq) Z4:=by
 refine .mk ?_
 intro pins s σ H x y v u Q I rx ry h
 obtain⟨hs,q⟩:=h
 cases x with
 | non=>
  cases rx
  cases y with
  | non=>cases ry; exact PySem.EqNone.eq_none_none (bO I q (by simp))
  | bl j=>cases ry; exact PySem.EqNone.eq_none_bool (bO I q (by simp))
  | int j=>obtain⟨t',rfl⟩:=ry; exact PySem.EqNone.eq_none_int (bO I q (by simp))
  | str j=>obtain⟨t',rfl⟩:=ry; exact PySem.EqNone.eq_none_str (bO I q (by simp))
  | _=>exact absurd (show false=true from hs) kE
 | bl i=>
  cases rx
  cases y with
  | non=>cases ry; exact PySem.EqNone.eq_bool_none (bO I q (by simp))
  | bl j=>cases ry; exact eq_bool (bO I q RK)
  | str j=>obtain⟨t',rfl⟩:=ry; exact PySem.EqMixed.eq_bool_str (bO I q (by simp))
  | _=>exact absurd (show false=true from hs) kE
 | int i=>
  obtain⟨t,rfl⟩:=rx
  cases y with
  | non=>cases ry; exact PySem.EqNone.eq_int_none (bO I q (by simp))
  | int j=>obtain⟨t',rfl⟩:=ry; exact eq_int (bO I q KC)
  | str j=>obtain⟨t',rfl⟩:=ry; exact PySem.EqMixed.eq_int_str (bO I q (by simp))
  | _=>exact absurd (show false=true from hs) kE
 | str i=>
  obtain⟨t,rfl⟩:=rx
  cases y with
  | non=>cases ry; exact PySem.EqNone.eq_str_none (bO I q (by simp))
  | bl j=>cases ry; exact PySem.EqMixed.eq_str_bool (bO I q (by simp))
  | int j=>obtain⟨t',rfl⟩:=ry; exact PySem.EqMixed.eq_str_int (bO I q (by simp))
  | str j=>obtain⟨t',rfl⟩:=ry; exact eq_str (bO I q Kz)
  | _=>exact absurd (show false=true from hs) kE
 | Ol i=>
  obtain⟨t,rfl⟩:=rx
  cases y with
  | Ol j=>obtain⟨t',rfl⟩:=ry; exact PySem.W.eq_bytes (bO I q KD)
  | _=>exact absurd (show false=true from hs) kE
 | _=>cases y <;> exact absurd (show false=true from hs) kE
theorem JX:rm X (compareOp .NotEq) Z3:=by
 refine .mk ?_
 intro pins s σ H x y v u Q I rx ry h
 obtain⟨hs,q⟩:=h
 cases x with
 | non=>
  cases rx
  cases y with
  | non=>cases ry; exact PySem.EqNone.ne_none_none (bO I q (by simp))
  | bl j=>cases ry; exact PySem.EqNone.ne_none_bool (bO I q (by simp))
  | int j=>obtain⟨t',rfl⟩:=ry; exact PySem.EqNone.ne_none_int (bO I q (by simp))
  | str j=>obtain⟨t',rfl⟩:=ry; exact PySem.EqNone.ne_none_str (bO I q (by simp))
  | _=>exact absurd (show false=true from hs) kE
 | bl i=>
  cases rx
  cases y with
  | non=>cases ry; exact PySem.EqNone.ne_bool_none (bO I q (by simp))
  | bl j=>cases ry; exact ne_bool (bO I q (gW not RK))
  | str j=>obtain⟨t',rfl⟩:=ry; exact PySem.EqMixed.ne_bool_str (bO I q (by simp))
  | _=>exact absurd (show false=true from hs) kE
 | int i=>
  obtain⟨t,rfl⟩:=rx
  cases y with
  | non=>cases ry; exact PySem.EqNone.ne_int_none (bO I q (by simp))
  | int j=>obtain⟨t',rfl⟩:=ry; exact ne_int (bO I q (gW not KC))
  | str j=>obtain⟨t',rfl⟩:=ry; exact PySem.EqMixed.ne_int_str (bO I q (by simp))
  | _=>exact absurd (show false=true from hs) kE
 | str i=>
  obtain⟨t,rfl⟩:=rx
  cases y with
  | non=>cases ry; exact PySem.EqNone.ne_str_none (bO I q (by simp))
  | bl j=>cases ry; exact PySem.EqMixed.ne_str_bool (bO I q (by simp))
  | int j=>obtain⟨t',rfl⟩:=ry; exact PySem.EqMixed.ne_str_int (bO I q (by simp))
  | str j=>obtain⟨t',rfl⟩:=ry; exact ne_str (bO I q (gW not Kz))
  | _=>exact absurd (show false=true from hs) kE
 | Ol i=>
  obtain⟨t,rfl⟩:=rx
  cases y with
  | Ol j=>obtain⟨t',rfl⟩:=ry; exact PySem.W.ne_bytes (bO I q (gW not KD))
  | _=>exact absurd (show false=true from hs) kE
 | _=>cases y <;> exact absurd (show false=true from hs) kE
theorem tV:rm X (compareOp .Lt) (T5 fun i j=>.bl (decide (i<j))):=Xx fun _ _ _ _ _ _ _ q=>lt_int q
theorem jn:rm X (compareOp .Gt) (T5 fun i j=>.bl (decide (j<i))):=Xx fun _ _ _ _ _ _ _ q=>gt_int q
theorem JZ:rm X (compareOp .GtE) (T5 fun i j=>.bl (decide (j<=i))):=Xx fun _ _ _ _ _ _ _ q=>ge_int q
theorem QQ:rm X (compareOp .Is) (fun x y H Q=>y=.non/\Q (.bl (decide (x=.non))) H):=by
 refine .mk ?_
 intro pins s σ H x y v u Q I rx ry h
 obtain⟨rfl,q⟩:=h
 cases ry
 refine is_none_gen (bO I q ?_)
 cases x <;> first
  | (cases rx; rfl)
  | (obtain⟨t,rfl⟩:=rx; rfl)
theorem jH:rm X (compareOp .IsNot) (fun x y H Q=>y=.non/\Q (.bl (!decide (x=.non))) H):=by
 refine .mk ?_
 intro pins s σ H x y v u Q I rx ry h
 obtain⟨rfl,q⟩:=h
 cases ry
 refine isnot_none_gen (bO I q ?_)
 cases x <;> first
  | (cases rx; rfl)
  | (obtain⟨t,rfl⟩:=rx; rfl)
theorem aR (b:Expr) {op:CmpOp} (h:op≠.In:=by decide) (h2:op≠.NotIn:=by decide):behindInMarks op b=false:=by
 have e1:(op==CmpOp.In)=false:=by cases op <;> first | rfl | exact absurd rfl h
 have e2:(op==CmpOp.NotIn)=false:=by cases op <;> first | rfl | exact absurd rfl h2
 cases b <;> simp[behindInMarks,e1,e2]
theorem dC {op:CmpOp} {r:R2} (ho:rm X (compareOp op) r) (ha:PE X a ta) (hb:PE X b tb) (hm:behindInMarks op b=false):PE X (.Compare a [op] [b] pos) (Tf r ta tb):=by
 refine .mk ?_
 intro pins s σ H Q I h
 exact wpAny_Compare1 (Yo ha hb I h fun v u s2 x y H2 I2 rx ry q=>ho pins s2 σ H2 x y v u Q I2 rx ry q) hm
def O9 (t:TE):TT:=fun σ H Q=>t σ H fun x H'=>∃k,x=.bl k/\Q k H'
theorem a_ {op:CmpOp} {r:R2} (ho:rm X (compareOp op) r) (ha:PE X a ta) (hb:PE X b tb) (hm:behindInMarks op b=false):PT X (.Compare a [op] [b] pos) (O9 (Tf r ta tb)):=by
 refine .mk ?_
 intro pins s σ H Q I h
 refine wpAny_isTrue_Compare1 (cQ (ha pins s σ H _ I h) fun v s1 ⟨x,H1,I1,r1,q1⟩=>cQ (hb pins s1 σ H1 _ I1 q1) fun u s2 ⟨y,H2,I2,r2,q2⟩=>
  cQ (ho pins s2 σ H2 x y v u _ I2 r1 r2 q2) fun c s3 ⟨z,H3,I3,r3,k,e,q3⟩=>?_) hm
 subst e
 cases r3
 exact Eh ⟨H3,I3,q3⟩
def WX (r r':R2) (ta tb tc:TE):TE:=fun σ H Q=>ta σ H fun x H1=>tb σ H1 fun y H2=>r x y H2 fun z H3=>∃k,z=.bl k /\
 (if k=true then tc σ H3 fun w' H4=>r' y w' H4 Q else Q (.bl false) H3)
def adx (K:PySem.W.Frag) (x:V) (H:Hp) (k:Bool):Prop:=
 match x with
 | .non=>k=false
 | .bl b=>k=b
 | .int i=>k=(i != 0)
 | .str y=>y.length<=sizeLine/\k=((y.length:Int) != 0)
 | .Ol y=>y.size<=sizeLine/\k=((y.size:Int) != 0)
 | .ref p=>(∃xs,dX K H p xs/\k = !xs.isEmpty)\/(∃xs,cG K H p xs/\k = !xs.isEmpty)\/∃kvs,H p=some (.dK kvs)/\k = !kvs.isEmpty
 | _=>False
theorem wH:(sizeLine:Nat)<2 ^ 63:=by rw[sizeLine_eq]; decide
theorem vals1 {x:V} {us:List Value} (r:Vals [x] us):∃u,us=[u]/\RelV x u:=by
 cases r with
 | cons r1 r2=>cases r2; exact⟨_,rfl,r1⟩
theorem vals2 {x y:V} {us:List Value} (r:Vals [x,y] us):∃u w',us=[u,w']/\RelV x u/\RelV y w':=by
 cases r with
 | cons r1 r2=>
  cases r2 with
  | cons r3 r4=>cases r4; exact⟨_,_,rfl,r1,r3⟩
theorem Gj:cT X (.builtin "abs") (fun xs H Q=>∃i,xs=[.int i]/\Q (.int (if i<0 then -i else i)) H):=by
 refine .mk ?_
 intro pins s σ H xs us Q I r h
 obtain⟨i,rfl,q⟩:=h
 obtain⟨u,rfl,t,rfl⟩:=vals1 r
 exact call_abs_int fun u tk=>⟨.int (if i<0 then -i else i),H,I.tok _,⟨_,rfl⟩,q⟩
theorem e_ (hc:X.calm=true):cT X (.builtin "max") (fun xs H Q=>∃i j,xs=[.int i,.int j]/\Q (.int (if j>i then j else i)) H):=by
 refine .mk ?_
 intro pins s σ H xs us Q I r h
 obtain⟨i,j,rfl,q⟩:=h
 obtain⟨u,w',rfl,⟨t,rfl⟩,⟨t',rfl⟩⟩:=vals2 r
 refine max_two_ints (I.ok.hd hc) fun h' tk k=>⟨_,H,I.kept k,?_,q⟩
 by_cases hj:j>i
 ·rw[aL hj,aL hj]; exact⟨_,rfl⟩
 ·rw[bB hj,bB hj]; exact⟨_,rfl⟩
theorem dU (hc:X.calm=true):cT X (.builtin "min") (fun xs H Q=>∃i j,xs=[.int i,.int j]/\Q (.int (if j<i then j else i)) H):=by
 refine .mk ?_
 intro pins s σ H xs us Q I r h
 obtain⟨i,j,rfl,q⟩:=h
 obtain⟨u,w',rfl,⟨t,rfl⟩,⟨t',rfl⟩⟩:=vals2 r
 refine min_two_ints (I.ok.hd hc) fun h' tk k=>⟨_,H,I.kept k,?_,q⟩
 by_cases hj:j<i
 ·rw[aL hj,aL hj]; exact⟨_,rfl⟩
 ·rw[bB hj,bB hj]; exact⟨_,rfl⟩
end
structure Yv (h:Heap) (x dx C:Addr) (mA:Str->Option Value):Prop where
 obj:h.get? x=some (PySem.W.instObj C dx)
 ns:h.Ns1 dx mA
 ne:dx≠x
theorem M5 {h:Heap} {dx:Addr} {mA:Str->Option Value} (n:h.Ns1 dx mA):∃od,h.get? dx=some od/\∀name,PySem.W.lookIn name od=some (mA name):=by
 obtain⟨o,es,ep,ho,hd,hk,_,hm⟩:=n
 refine⟨o,ho,fun name=>?_⟩
 have e:=hm name
 unfold nsFind findBy at e
 rw[<- Array.find?_toList] at e
 unfold PySem.W.lookIn
 rw[hd]
 dsimp only
 split
 ·rename_i y q
  rw[q] at e
  exact gW some e
 ·rename_i q
  rw[q] at e
  have a:es.toList.any (·.refKey)=false:=by
   rw[List.any_eq_false]
   intro y hy
   obtain⟨z,t,hkey⟩:=hk y (Array.mem_toList_iff.mp hy)
   simp[DictEntry.refKey,hkey]
  have a':¬es.toList.any (·.refKey)=true:=by rw[a]; exact kE
  rw[bB a']
  exact gW some e
theorem Yv.look {h:Heap} {x dx C:Addr} {mA:Str->Option Value} (I:Yv h x dx C mA):∃od,PySem.W.InstAt h x (PySem.W.instObj C dx) C (some od)/\∀name,PySem.W.lookIn name od=some (mA name):=
 let ⟨od,ho,hl⟩:=M5 I.ns
 ⟨od,⟨I.obj,rfl,rfl,ho⟩,hl⟩
section
variable {prog:Program} {w:World} {A:Around} {E:Value->Shared->Prop} {s:Shared} {K:PySem.W.Frag} {x dx C f:Addr} {mA:Str->Option Value} {name:Str} {v:Value}
end
section
variable {P:Program} {w:World} {H H':Hp} {h h':Heap} {a C dx:Addr} {fs fs':List (Str×V)}
theorem Ko (hok:lW P w H h) (e:H a=some (.ins C dx fs)):∃mA,Yv h a dx C mA/\(∀f,Yt (fs.lookup f) (mA f))/\PySem.Within mA (fs.map (·.1))/\fs.length<=1000/\H dx=some (.own a):=by
 obtain⟨d,z,ne,ob,mA,n,r,q⟩:=(show cz P w H h a (.ins C dx fs) from hok a _ e)
 exact⟨mA,⟨ob,n,ne⟩,r,q,z,d⟩
end
structure Cls (K:PySem.W.Frag) (C:Addr):Prop where
 pg:PySem.W.plainGet K C Str.empty=true
 hd:PySem.W.hasDictIn K C=true
 po:PySem.W.plainOver K C=true
 sa:PySem.W.findIn K (.ref C) "__setattr__" = some (some (.builtin "object.__setattr__"))
theorem Cls.get {K:PySem.W.Frag} {C:Addr} (c:Cls K C) (f:Str):PySem.W.plainGet K C f=true:=c.pg
structure Con (K:PySem.W.Frag) (C:Addr) (f:Str) (v:V) (u:Value):Prop where
 at_:PySem.W.findIn K (.ref C) f=some (some u)
 rel:RelV v u
 get:PySem.W.specialIn K u "__get__" = some none
 cp:PySem.W.copiedNames.contains f=false
structure Meth (K:PySem.W.Frag) (C:Addr) (m:Str) (f:Addr):Prop where
 at_:PySem.W.findIn K (.ref C) m=some (some (.ref f))
 fn:PySem.W.isFn K (.ref f)=true
 kp:PySem.W.keepIn K (.ref f)=true
section
variable {X:Cx} {pins:List (Addr×Obj)} {σ:St} {H:Hp} {s:Shared} {a C dx:Addr} {fs:List (Str×V)} {f:Str} {v:V} {A:Around} {E:Value->Shared->Prop}
end
section
variable {X:Cx} {o e value:Expr} {f:Str} {pos pos' tpos:Pos} {ta tv:TE}
end
section
variable {X:Cx} {pins:List (Addr×Obj)} {σ:St} {H:Hp} {s:Shared} {A:Around} {E:Value->Shared->Prop} {Q:Value->Shared->Prop} {c:Value} {b:Bool}
inductive q_ (K:PySem.W.Frag) (H:Hp):V->Value->Prop where
 | non:q_ K H .non (.type "NoneType")
 | bl (x:Bool):q_ K H (.bl x) (.type "bool")
 | int (i:Int):q_ K H (.int i) (.type "int")
 | str (x:Str):q_ K H (.str x) (.type "str")
 | flt (x:UInt64):q_ K H (.flt x) (.type "float")
 | lst {a:Addr} {xs:List V} (e:H a=some (.lst xs)):q_ K H (.ref a) (.type "list")
 | Dn {a:Addr} {o:Obj} {xs:List V} (e:H a=some (.Dn o (.lst xs))):q_ K H (.ref a) (.type "list")
 | tup {a:Addr} {xs:List V} (e:H a=some (.tup xs)):q_ K H (.ref a) (.type "tuple")
 | dK {a:Addr} {kvs:List (Key×V)} (e:H a=some (.dK kvs)):q_ K H (.ref a) (.type "dict")
 | dT {a:Addr} {kvs:List (List Key×V)} (e:H a=some (.dT kvs)):q_ K H (.ref a) (.type "dict")
 | ins {a C dx:Addr} {fs:List (Str×V)} (e:H a=some (.ins C dx fs)) (cl:Cls K C) (ha:PySem.W.findIn K (.ref C) "__class__" = some (some (.builtin "object.__class__")))
   (hn:PySem.W.specialIn K (.builtin "object.__class__") "__get__" = some (some (.builtin "getset_descriptor.__get__"))) (htk:PySem.W.takesIn K (.builtin "object.__class__")=some true)
   (hm:PySem.W.mroIn K C (.type "object")=some true):q_ K H (.ref a) (.ref C)
theorem Nf {x:V} {u t:Value} (I:Inv X pins σ H s) (rx:RelV x u) (ty:q_ X.K H x t) (e:PySem.W.kitOne X.K t c=some b) (h:∀tk,Q (.bool b) { s with toks:=tk }) :
  wpAny (model X.prog X.w) A (call (.builtin "isinstance") [u,c]) Q E s:=by
 cases ty with
 | non=>cases(show u=Value.none from rx); exact PySem.W.kia_one PySem.W.kitx_none I.oJ True.intro e (fun z=>nomatch z) h
 | bl y=>cases(show u=Value.bool y from rx); exact PySem.W.kia_one PySem.W.kitx_bool I.oJ True.intro e (fun z=>nomatch z) h
 | int i=>obtain⟨t,q⟩:=(show ∃t,u=Value.int i t from rx); cases q; exact PySem.W.kia_one PySem.W.kitx_int I.oJ True.intro e (fun z=>nomatch z) h
 | str y=>obtain⟨t,q⟩:=(show ∃t,u=Value.str y t from rx); cases q; exact PySem.W.kia_one PySem.W.kitx_str I.oJ True.intro e (fun z=>nomatch z) h
 | flt y=>obtain⟨t,q⟩:=(show ∃t,u=Value.float y t from rx); cases q; exact PySem.W.kia_one PySem.W.kitx_float I.oJ True.intro e (fun z=>nomatch z) h
 | @lst a xs ea=>
  cases(show u=Value.ref a from rx)
  obtain⟨_,_,n,_,h1⟩:=(show cz X.prog X.w H s.heap a (.lst xs) from I.hok a _ ea)
  exact PySem.W.kia_one PySem.W.kitx_list I.oJ ⟨_,h1,rfl⟩ e (fun z=>nomatch z) h
 | @Dn a ob xs ea=>
  cases(show u=Value.ref a from rx)
  obtain⟨_,_,_,n,_,h1⟩:=(show cz X.prog X.w H s.heap a (.Dn ob (.lst xs)) from I.hok a _ ea)
  exact PySem.W.kia_one PySem.W.kitx_list I.oJ ⟨_,h1,rfl⟩ e (fun z=>nomatch z) h
 | @tup a xs ea=>
  cases(show u=Value.ref a from rx)
  obtain⟨_,_,_,p⟩:=(show cz X.prog X.w H s.heap a (.tup xs) from I.hok a _ ea)
  obtain⟨o,h1,h2,_⟩:=p
  exact PySem.W.kia_one PySem.W.kitx_tuple I.oJ ⟨o,h1,h2⟩ e (fun z=>nomatch z) h
 | @dK a kvs ea=>
  cases(show u=Value.ref a from rx)
  obtain⟨_,_,vs,_,p⟩:=(show cz X.prog X.w H s.heap a (.dK kvs) from I.hok a _ ea)
  obtain⟨o,es,ep,h1,h2,_⟩:=p
  exact PySem.W.kia_one PySem.W.kitx_dict I.oJ ⟨o,h1,h2.1⟩ e (fun z=>nomatch z) h
 | @dT a kvs ea=>
  cases(show u=Value.ref a from rx)
  obtain⟨_,_,xs,_,o,es,ep,h1,h2,_⟩:=(show cz X.prog X.w H s.heap a (.dT kvs) from I.hok a _ ea)
  exact PySem.W.kia_one PySem.W.kitx_dict I.oJ ⟨o,h1,h2.1⟩ e (fun z=>nomatch z) h
 | @ins a C dx fs ea cl ha hn htk hm=>
  cases(show u=Value.ref a from rx)
  obtain⟨mA,O,_⟩:=Ko I.hok ea
  obtain⟨od,J,_⟩:=O.look
  exact PySem.W.kia_one (PySem.W.kitx_own (cl.get _) cl.hd ha hn htk hm) I.oJ J e (fun z=>nomatch z) h
end
structure ir (k:Nat) (A:Around):Prop where
 hd:A.handled=none
 dp:A.depth+3*k+5<recursionLimit
 un:A.units+16*k+200<cLine
 gd:A.guards=some []
theorem ir.mono {j k:Nat} {A:Around} (r:ir k A) (h:j<=k):ir j A:=⟨r.hd,by have:=r.dp; omega,by have:=r.un; omega,r.gd⟩
theorem ir.deeper {k:Nat} {A:Around} (r:ir (k+1) A) (env:Env):ir k (A.deeper env):=
 ⟨r.hd,by have:=r.dp; show A.depth+1+3*k+5<_; omega,by have:=r.un; show A.units+3+16*k+200<_; omega,by first | exact r.gd | (simpa[Around.deeper,Around.under,Code.guards,Code.isGuard,guardIds,pushGuards] using r.gd)⟩
theorem ir.depth {k:Nat} {A:Around} (r:ir k A):A.depth<recursionLimit:=by have:=r.dp; omega
theorem ir.units {k:Nat} {A:Around} (r:ir k A):A.units+64<cLine:=by have:=r.un; omega
def Tg:TA:=fun _ H Q=>Q [] H
def Jd (ta:TE) (tr:TA):TA:=fun σ H Q=>ta σ H fun x H1=>tr σ H1 fun xs H2=>Q (x::xs) H2
section
variable {X:Cx} {e:Expr} {es:List Expr} {te:TE} {t:TA} {pos:Pos}
theorem aj:PA X [] Tg:=.mk <| fun _ _ _ _ H Q I h=>Calls.spliced_nil ⟨[],H,I,.nil,h⟩
theorem Uh (ha:PE X e te) (hr:PA X es t) (hs:starEach (e::es) X.env=(false,eval e X.env)::starEach es X.env:=by rfl):PA X (e::es) (Jd te t):=by
 refine .mk ?_
 intro pos pins s σ H Q I h
 rw[hs]
 show wpAny _ _ (spliced ((false,eval e X.env)::backTo pos (starEach es X.env))) _ _ s
 refine Calls.spliced_cons (cQ (ha pins s σ H _ I h) fun u s1 qx=>?_)
 obtain⟨x,H1,I1,r1,q1⟩:=qx
 exact cQ (hr pos pins s1 σ H1 _ I1 q1) fun us s2 ⟨xs,H2,I2,r2,q2⟩=>⟨x::xs,H2,I2,.cons r1 r2,q2⟩
def abJ (t:TA):TE:=fun σ H Q=>t σ H fun xs H1=>xs.length<=sizeLine/\∀p,H1 p=none->Q (.ref p) (upd H1 p (.tup xs))
def Zw (t:TA):TE:=fun σ H Q=>t σ H fun xs H1=>xs.length<=sizeLine/\∀p,H1 p=none->Q (.ref p) (upd H1 p (.lst xs))
theorem Xp (h:PA X es t):PE X (.List es pos) (Zw t):=by
 refine .mk ?_
 intro pins s σ H Q I hq
 refine wpAny_List_spliced (cQ (h pos pins s σ H _ I hq) fun us s1 ⟨xs,H1,I1,r,z,q⟩=>⟨by rw[<- r.length]; exact z,?_⟩)
 have hf:H1 s1.heap.objs.size=none:=I1.hok.fresh (bF _)
 refine⟨.ref s1.heap.objs.size,upd H1 s1.heap.objs.size (.lst xs),I1.laid (t':=s1.toks) (fun b u e=>eO _ e) (bF _) ?_,rfl,q _ hf⟩
 exact⟨z,us,0,r,dM _ rfl⟩
end
abbrev Sp:=List V->Hp->VK->XK->Prop
abbrev K9:=List Env->Hp->Shared->XK->Value->Shared->Prop
structure Vu (P:Program) (w:World) (K:PySem.W.Frag) (mg:Str->Option Value) (base:Heap) (A:Around) (outer:List Env) (s:Shared) (H:Hp):Prop where
 frames:A.frames=some outer
 mod:Mod K mg base
 bs:∀b o,base.get? b=some o->s.heap.get? b=some o/\H b=none
 Om:base.objs.size<=s.heap.objs.size
 uo:s.heap.FunFrames base outer
 Ye:∀b∈frs outer,H b=none
 hok:lW P w H s.heap
 bare:AllBare s.gens
def CE (outer:List Env) (P:Program) (w:World) (H:Hp) (s:Shared) (Q:VK) (u:Value) (s':Shared):Prop:=
 ∃v H',s'.os=s.os/\AllBare s'.gens/\Un (frs outer) [] H H' s.heap s'.heap/\lW P w H' s'.heap/\RelV v u/\Q v H'
def CR (CX:K9) (outer:List Env) (P:Program) (w:World) (H:Hp) (s:Shared) (Q:VK) (E:XK) (r:Result) (s':Shared):Prop:=
 match r with
 | .ok (.ret u)=>CE outer P w H s Q u s'
 | .ok _=>False
 | .error e=>CX outer H s E e s'
structure bQ (P:Program) (w:World) (K:PySem.W.Frag) (mg:Str->Option Value) (base:Heap) (CX:K9) (k:Nat) (f:Addr) (fd:FuncData) (ps:List Str) (sp:Sp):Prop where
 len:∀vs H Q E,sp vs H Q E->vs.length=ps.length
 run:∀(A:Around) (outer:List Env) (s:Shared) (H:Hp) (args:Args) (us:List Value) (vs:List V) (Q:VK) (E:XK),ir k A->Vu P w K mg base A outer s H->BindsTo s fd args (ps.zip us)->Vals vs us->sp vs H Q E ->
  codeAny (model P w) A (.call (.ref f) args) (CR CX outer P w H s Q E) s
theorem bQ.mono {P:Program} {w:World} {K:PySem.W.Frag} {mg:Str->Option Value} {base:Heap} {CX:K9} {j k:Nat} {f:Addr} {fd:FuncData} {ps:List Str} {sp:Sp} (F:bQ P w K mg base CX j f fd ps sp) (h:j<=k) :
  bQ P w K mg base CX k f fd ps sp:=⟨F.len,fun A outer s H args us vs Q E hr=>F.run A outer s H args us vs Q E (hr.mono h)⟩
section
variable {X:Cx} {pins:List (Addr×Obj)} {σ:St} {H:Hp} {s s':Shared}
theorem Inv.env0 (I:Inv X pins σ H s):Vu X.prog X.w X.K X.mg X.base X.A X.stack s H:=
 ⟨I.ok.frames,I.ok.mod,I.bs,oG I.ok.Om I.sz,I.stack,I.uy,I.hok,I.bare⟩
theorem Inv.after {Q:VK} {u:Value} (I:Inv X pins σ H s) (h:CE X.stack X.prog X.w H s Q u s'):EP X pins σ Q u s':=by
 obtain⟨v,H',os,bare,un,hok,r,q⟩:=h
 obtain⟨hh,g,d,t,os'⟩:=s'
 obtain rfl:os'=s.os:=os
 exact⟨v,H',I.call (h':=hh) (g':=g) (d':=d) (t':=t) (ch:=[]) un hok bare (fun b z=>absurd z (by simp)),r,q⟩
end
def pW (sp:Sp) (Oj:List V) (E:XK) (t:TA):TE:=fun σ H Q=>t σ H fun vs H1=>sp (vs++Oj) H1 Q E
def Binds (K:PySem.W.Frag) (fd:FuncData) (ps:List Str) (ds:List Value):Prop:=
 ∀(s:Shared) (us:List Value),K.In s.heap->(us++ds).length=ps.length->BindsTo s fd ⟨us,[]⟩ (ps.zip (us++ds))
theorem Binds.all {K:PySem.W.Frag} {fd:FuncData} {ps:List Str} (h:∀us:List Value,us.length=ps.length->bindArgs fd ⟨us,[]⟩=pure (ps.zip us)):Binds K fd ps []:=fun s us _ hl=>by
 rw[lZ] at hl ⊢
 exact .of_eq (h us hl)
def Passes (CX:K9) (X:Cx) (E:XK):Prop:=∀(pins:List (Addr×Obj)) (σ:St) (H:Hp) (s:Shared) (e:Value) (s':Shared),Inv X pins σ H s->CX X.stack H s E e s'->X.xe e s'
section
variable {X:Cx} {CX:K9} {k:Nat} {f C:Addr} {fd:FuncData} {ps:List Str} {sp:Sp} {Oj:List V} {ds:List Value} {E:XK} {x m:Str} {p pos apos:Pos} {e o:Expr} {es:List Expr} {ta:TE} {t:TA}
theorem Xc {pins:List (Addr×Obj)} {σ:St} {H:Hp} {s:Shared} {Q:VK} {us:List Value} {vs:List V} (F:bQ X.prog X.w X.K X.mg X.base CX k f fd ps sp) (hr:ir k X.A) (hb:Binds X.K fd ps ds) (hd:Vals Oj ds) (hx:Passes CX X E)
  (I:Inv X pins σ H s) (r:Vals vs us) (h:sp (vs++Oj) H Q E):wpAny (model X.prog X.w) X.A (call (.ref f) us) (EP X pins σ Q) X.xe s:=by
 have r2:Vals (vs++Oj) (us++ds):=r.append hd
 have hl:(us++ds).length=ps.length:=by rw[<- r2.length]; exact F.len _ _ _ _ h
 refine wpAny_call (codeAny_mono (F.run X.A X.stack s H ⟨us,[]⟩ (us++ds) (vs++Oj) Q E hr I.env0 (hb s us I.oJ hl) r2 h) fun r s' hq=>?_)
 cases r with
 | error e=>exact hx pins σ H s e s' I hq
 | ok fl=>
  cases fl with
  | ret u=>exact I.after hq
  | next=>exact False.elim hq
  | brk=>exact False.elim hq
  | cont=>exact False.elim hq
theorem JV (F:bQ X.prog X.w X.K X.mg X.base CX k f fd ps sp) (hr:ir k X.A) (hg:Gl X x) (hm:X.mg x=some (.ref f)) (hk:PySem.W.keepIn X.K (.ref f)=true) (hb:Binds X.K fd ps ds) (hd:Vals Oj ds) (hx:Passes CX X E)
  (ha:PA X (e::es) t) (hdb:(x==("__debug__" : Str))=false:=by decide) (he:starEach (e::es) X.env=(false,eval e X.env)::starEach es X.env:=by rfl) (hpl:(backTo pos (starEach es X.env)).any (·.1)=false:=by rfl) :
  PE X (.Call (.Name x p) (e::es) [] pos) (pW sp Oj E t):=by
 refine .mk ?_
 intro pins s σ H Q I h
 refine rY (uI I hg hm ?_ hdb)
 refine PySem.W.callWith_K (h₀:=X.base) I.ok.mod.U9 hk (cQ (ha pos pins s σ H _ I h) fun us s1 ⟨vs,H1,I1,r,q⟩=>⟨I1.oJ,?_⟩) he hpl
 exact Xc F hr hb hd hx I1 r q
structure Mk (K:PySem.W.Frag) (C f:Addr):Prop where
 makes:PySem.W.makesIn K C=true
 init:PySem.W.findIn K (.ref C) "__init__" = some (some (.ref f))
 fn:PySem.W.isFn K (.ref f)=true
 kp:PySem.W.keepIn K (.ref C)=true
end
def PK (X:Cx) (kws:List Keyword) (t:TA):Prop:=
 ∀(pos:Pos) (pins:List (Addr×Obj)) (s:Shared) (σ:St) (H:Hp) (Q:List V->Hp->Prop),Inv X pins σ H s->t σ H Q->wpAny (model X.prog X.w) X.A (evalAll ((backToKw pos (keywordEach kws X.env)).map (·.2))) (AP X pins σ Q) X.xe s
section
variable {X:Cx} {CX:K9} {k:Nat} {f C:Addr} {fd:FuncData} {ps ks:List Str} {sp:Sp} {E:XK} {x m:Str} {p pos apos U6:Pos} {e o:Expr} {es:List Expr} {kws:List Keyword} {te ta:TE} {t tk:TA} {nm:Option Str}
theorem Xm:PK X [] Tg:=fun _ _ _ _ H Q I h=>wpAny_evalAll_nil ⟨[],H,I,.nil,h⟩
theorem T_ (ha:PE X e te) (hr:PK X kws t):PK X (⟨nm,e,U6⟩::kws) (Jd te t):=by
 intro pos pins s σ H Q I h
 show wpAny _ _ (evalAll ((do let v <- eval e X.env; standAt pos; pure v)::(backToKw pos (keywordEach kws X.env)).map (·.2))) _ _ s
 refine wpAny_evalAll_cons (aQ (cQ (ha pins s σ H _ I h) fun u s1 ⟨x,H1,I1,r1,q1⟩=>aQ (Bv (bU ?_))))
 exact cQ (hr pos pins s1 σ H1 _ I1 q1) fun us s2 ⟨xs,H2,I2,r2,q2⟩=>⟨x::xs,H2,I2,.cons r1 r2,q2⟩
structure adA (K:PySem.W.Frag) (fd:FuncData) (ps ks:List Str) (g:List Value->List Value->List Value) (gV:List V->List V->List V):Prop where
 to:∀(s:Shared) (us ws:List Value),K.In s.heap->(g us ws).length=ps.length->BindsTo s fd ⟨us,ks.zip ws⟩ (ps.zip (g us ws))
 rel:∀{vs:List V} {us:List Value} {zs:List V} {ws:List Value},Vals vs us->Vals zs ws->Vals (gV vs zs) (g us ws)
variable {g:List Value->List Value->List Value} {gV:List V->List V->List V}
end
structure aV (N P:List Str) (sc:Scope):Prop where
 kind:sc.kind=.function
 co:sc.isCoroutine=false
 gen:sc.isGenerator=false
 nd:N.Nodup
 pre:N.take P.length=P
 par:∀x∈P,sc.names.lookup x=some .local\/sc.names.lookup x=some .cell
 XF:∀y∈sc.names,y.2≠.free
theorem Ao {kindOf:Str->Option NameKind} {x:Str}:∀{binds:List (Str×Value)} {m:Str->Option Value},(∀v,(x,v)∉binds)->bindL kindOf binds m x=m x
 | [],_,_=>rfl
 | (n,v)::r,m,h=>by
  unfold bindL
  rw[Ao fun w hw=>h w (iM _ hw)]
  split
  ·have:x≠n:=by rintro rfl; exact h v jl
   simp[this]
  ·rfl
theorem Ar {kindOf:Str->Option NameKind} {x:Str}:∀{binds:List (Str×Value)} {m:Str->Option Value},(∀v,(x,v)∉binds)->bindC kindOf binds m x=m x
 | [],_,_=>rfl
 | (n,v)::r,m,h=>by
  unfold bindC
  rw[Ar fun w hw=>h w (iM _ hw)]
  split
  ·rfl
  ·have:x≠n:=by rintro rfl; exact h v jl
   simp[this]
theorem Aq {kindOf:Str->Option NameKind} {x:Str} {v:Value}:∀{P:List Str} {vs:List Value} {i:Nat} {m:Str->Option Value},P.Nodup->P[i]?=some x->vs[i]?=some v->kindOf x=some .local ->
  bindL kindOf (P.zip vs) m x=some v
 | [],_,_,_,_,h,_,_=>by simp at h
 | _::_,[],_,_,_,_,h,_=>by simp at h
 | p::P,w::vs,0,m,nd,h1,h2,hk=>by
  simp at h1 h2; subst h1; subst h2
  show bindL kindOf ((p,w)::P.zip vs) m p=_
  unfold bindL
  rw[Ao fun v hv=>(Es.mp nd).1 (List.of_mem_zip hv).1,aL hk]
  simp
 | p::P,w::vs,i+1,m,nd,h1,h2,hk=>by
  show bindL kindOf ((p,w)::P.zip vs) m x=_
  unfold bindL
  exact Aq (i:=i) (Es.mp nd).2 (by simpa using h1) (by simpa using h2) hk
theorem Av {kindOf:Str->Option NameKind} {x:Str} {v:Value}:∀{P:List Str} {vs:List Value} {i:Nat} {m:Str->Option Value},P.Nodup->P[i]?=some x->vs[i]?=some v->kindOf x≠some .local ->
  bindC kindOf (P.zip vs) m x=some v
 | [],_,_,_,_,h,_,_=>by simp at h
 | _::_,[],_,_,_,_,h,_=>by simp at h
 | p::P,w::vs,0,m,nd,h1,h2,hk=>by
  simp at h1 h2; subst h1; subst h2
  show bindC kindOf ((p,w)::P.zip vs) m p=_
  unfold bindC
  rw[Ar fun v hv=>(Es.mp nd).1 (List.of_mem_zip hv).1,bB hk]
  simp
 | p::P,w::vs,i+1,m,nd,h1,h2,hk=>by
  show bindC kindOf ((p,w)::P.zip vs) m x=_
  unfold bindC
  exact Av (i:=i) (Es.mp nd).2 (by simpa using h1) (by simpa using h2) hk
def start (N:List Str) (vs:List V):St:=vs.map some++List.replicate (N.length-vs.length) none
def gq (CX:K9) (P:Program) (w:World) (K:PySem.W.Frag) (mg:Str->Option Value) (base:Heap) (N:List Str) (qual:Str) (scope:Scope) (f:Addr) (cd:Value) (A:Around) (outer:List Env) (s:Shared) (H:Hp) (E:XK):Cx where
 prog:=P
 w:=w
 K:=K
 mg:=mg
 base:=base
 A:=A.deeper (envOfC qual scope s.heap.objs.size f cd)
 N:=N
 s₀:=s
 H₀:=H
 env:=envOfC qual scope s.heap.objs.size f cd
 outer:=outer
 stack:=envOfC qual scope s.heap.objs.size f cd::outer
 ex:=[]
 calm:=true
 fn:=fun _=>true
 pn:=[]
 xe:=fun e s'=>wpAny (model P w) (A.deeper (envOfC qual scope s.heap.objs.size f cd)) (leaving (envOfC qual scope s.heap.objs.size f cd) e) (fun _ s''=>CX outer H s E e s'') (fun e' s''=>CX outer H s E e' s'') s'
theorem Gh {sc:Scope} {n:Nat} {x:Str} (h:sc.names.lookup x=some .cell):∃c,(cellsFrom n sc.names []).lookup x=some c:=by
 have q:=PySem.W.cellsFrom_some sc.names n [] (.inl h)
 exact Hv.mp q
theorem zZ {CX:K9} {P:Program} {w:World} {K:PySem.W.Frag} {mg:Str->Option Value} {base:Heap} {N ps:List Str} {qual:Str} {scope:Scope} {f:Addr} {cd:Value} {A:Around} {outer:List Env} {s s1:Shared} {H:Hp} {E:XK} {us:List Value} {vs:List V}
  (S:aV N ps scope) (hd:A.handled=none) (e0:Vu P w K mg base A outer s H) (hl:vs.length=ps.length) (r:Vals vs us)
  (x:InCallC s s.heap.objs.size (bindL (envOfC qual scope s.heap.objs.size f cd).kindOf (ps.zip us) fun _=>none) (cellsFrom (s.heap.objs.size+1) scope.names []) (bindC (envOfC qual scope s.heap.objs.size f cd).kindOf (ps.zip us) fun _=>none) s1) :
  Inv (gq CX P w K mg base N qual scope f cd A outer s H E) [] (start N vs) H s1:=by
 have hpl:ps.length<=N.length:=by have:=gW List.length S.pre; rw[jj] at this; omega
 obtain⟨h1,tk,rfl,hk⟩:=x.done
 have noA:∀b:Addr,b∉(gq CX P w K mg base N qual scope f cd A outer s H E).ex:=fun b z=>absurd (show b∈([]:List Addr) from z) (by simp)
 refine⟨⟨e0.mod,S.kind,rfl,rfl,bF _,fun y z c h1 h2=>?_,fun y hy=>?_,fun y c _ h=>?_,fun _=>hd,Around.frames_deeper e0.frames,.inr ⟨rfl,rfl⟩,fun b z=>absurd z (noA b),e0.bs,e0.Om,fun b _ _=>noA b,fun b z=>absurd z (noA b),e0.uo,e0.Ye⟩,
  rfl,e0.bare,Un.kept hk,⟨_,x.toInCall.ns,fun i y v h1 h2 h3=>?_⟩,fun y c h=>⟨_,x.cell y c h⟩,e0.hok.fresh (bF _),fun y c h=>?_,fun p hp=>absurd (show p∈([]:List (Addr×Obj)) from hp) (by simp),e0.hok.kept hk,?_⟩
 ·exact name_of_addr x.apart (PySem.mem_of_lookup h1) (PySem.mem_of_lookup h2)
 ·have hy:scope.names.lookup y=some .cell\/scope.names.lookup y=some .free:=hy
  rcases hy with hy | hy
  ·exact Gh hy
  ·exact absurd rfl (S.XF _ (PySem.mem_of_lookup hy))
 ·exact jB (x.above y c (PySem.mem_of_lookup h))
 ·have hi:i<vs.length:=by
   unfold start at h2
   by_cases hi:i<vs.length
   ·exact hi
   ·rw[vM (by simpa using hi)] at h2
    rw[Qt] at h2
    split at h2 <;> cases h2
  have ha:vs[i]?=some v:=by
   unfold start at h2
   rw[BL (by simpa using hi),gM] at h2
   cases e:vs[i]? with
   | none=>rw[e] at h2; cases h2
   | some a=>rw[e] at h2; cases h2; rfl
  obtain⟨u,hu,rv⟩:=r.get ha
  have hp:ps[i]?=some y:=by
   rw[<- S.pre,List.getElem?_take_of_lt (by omega)]; exact h1
  have ndP:ps.Nodup:=by rw[<- S.pre]; exact S.nd.sublist (List.take_sublist _ _)
  refine⟨u,rv,?_⟩
  rcases S.par y (jm hp) with k | k
  ·exact .inl ⟨k,Aq ndP hp hu k⟩
  ·obtain⟨c,e⟩:=Gh (n:=s.heap.objs.size+1) k
   refine .inr ⟨.inl k,c,e,?_⟩
   have q:=x.cell y c e
   rw[Av ndP hp hu (by show scope.names.lookup y≠_; rw[k]; decide)] at q
   exact q
 ·exact e0.hok.fresh (jB (x.above y c (PySem.mem_of_lookup h)))
 ·unfold start
  show _=N.length
  rw[fP,bR,BK]
  omega
theorem Wk {CX:K9} {P:Program} {w:World} {K:PySem.W.Frag} {mg:Str->Option Value} {base:Heap} {k:Nat} {f:Addr} {name qual:Str} {params:Arguments} {body:List Stmt} {scope:Scope} {dV kV doc pm cdv ct oc:Value} {an od:Option Addr}
  {osl:Array (Option Value)} {N ps:List Str} {sp:Sp} (lk:K.lookup f=some ⟨oc,od,.func (PySem.W.fnOf name qual params body scope dV kV doc pm an cdv ct),osl⟩) (hcd:PySem.W.codeIn K cdv qual=true) (S:aV N ps scope)
  (len:∀vs H Q E,sp vs H Q E->vs.length=ps.length)
  (hbody:∀(A:Around) (outer:List Env) (s:Shared) (H:Hp) (vs:List V) (Q:VK) (E:XK),ir k (A.deeper (envOfC qual scope s.heap.objs.size f cdv))->sp vs H Q E ->
   ∃t,yI (gq CX P w K mg base N qual scope f cdv A outer s H E) body t/\t { nx:=fun _ H'=>Q .non H',rt:=Q } (start N vs) H) :
  bQ P w K mg base CX (k+1) f (PySem.W.fnOf name qual params body scope dV kV doc pm an cdv ct) ps sp:=by
 refine⟨len,fun A outer s H args us vs Q E hr e0 hb r hsp=>?_⟩
 have hl:=len _ _ _ _ hsp
 have KX:K.In s.heap:=e0.mod.U9.keeps fun b o e=>(e0.bs b o e).1
 have lim:s.heap.NoLimit:=e0.mod.nolimit.keeps fun b o e=>(e0.bs b o e).1
 have hkind:∀y∈ps.zip us,scope.names.lookup y.1=some .local\/(scope.names.lookup y.1=some .cell/\((cellsFrom (s.heap.objs.size+1) scope.names []).lookup y.1).isSome=true):=fun⟨n,v⟩ hy=>by
  rcases S.par n (List.of_mem_zip hy).1 with q | q
  ·exact .inl q
  ·exact .inr ⟨q,PySem.W.cellsFrom_some _ _ _ (.inl q)⟩
 refine codeAny_call_function hr.depth (KX _ _ lk) rfl S.co S.gen rfl (PySem.W.codeRec_of KX hcd) (hb _ _ _ _ ?_)
 refine wpAny_newFunctionEnv_cells S.kind hkind fun env he s1 x=>?_
 subst he
 refine⟨lim.keeps x.toInCall.keep,codeAny_func ?_⟩
 obtain⟨t,ht,hq⟩:=hbody A outer s H vs Q E (hr.deeper _) hsp
 have I:Inv (gq CX P w K mg base N qual scope f cdv A outer s H E) [] (start N vs) H s1:=zZ S hr.hd e0 hl r x
 refine gm (ht [] s1 (start N vs) H _ I hq) (fun fl s' hs=>?_) fun e s' hs=>hs
 have fin:∀{σ':St} {H':Hp} {v:V} {u:Value},Inv (gq CX P w K mg base N qual scope f cdv A outer s H E) [] σ' H' s'->RelV v u->Q v H'->CE outer P w H s Q u s':=
  fun {σ' H' v u} J rv q=>⟨v,H',J.os,J.bare,J.base,J.hok,rv,q⟩
 cases fl with
 | ret u=>
  obtain⟨v,σ',H',J,rv,q⟩:=hs
  exact fin J rv q
 | next=>
  obtain⟨σ',H',J,q⟩:=hs
  exact fin (v:=V.non) (u:=Value.none) J rfl q
 | brk=>
  obtain⟨_,_,_,q⟩:=hs
  exact False.elim q
 | cont=>
  obtain⟨_,_,_,q⟩:=hs
  exact False.elim q
section
variable {X:Cx} {x:Str} {p pos:Pos} {e:Expr} {es:List Expr} {t:TA} {id T:String} {r:List V->Hp->VK->Prop}
def WY (r:List V->Hp->VK->Prop) (t:TA):TE:=fun σ H Q=>t σ H fun vs H1=>r vs H1 Q
theorem QK (hc:cT X (.builtin id) r) (hg:Gl X x) (hm:X.mg x=none) (hv:bootBuiltins x=some (.builtin id)) (ha:PA X (e::es) t) (hn:x ≠ "__name__" := by decide) (hdb:(x==("__debug__" : Str))=false:=by decide)
  (he:starEach (e::es) X.env=(false,eval e X.env)::starEach es X.env:=by rfl) (hpl:(backTo pos (starEach es X.env)).any (·.1)=false:=by rfl):PE X (.Call (.Name x p) (e::es) [] pos) (WY r t):=by
 refine .mk ?_
 intro pins s σ H Q I h
 refine rY (iR I hg hm hv ?_ hn hdb)
 exact PyProof.Rows.callWith_builtin1 (cQ (ha pos pins s σ H _ I h) fun us s1 ⟨vs,H1,I1,r1,q1⟩=>hc pins s1 σ H1 vs us Q I1 r1 q1) he hpl
theorem Mi (hc:cT X (.type T) r) (hg:Gl X x) (hm:X.mg x=none) (hv:bootBuiltins x=some (.type T)) (ha:PA X (e::es) t) (hn:x ≠ "__name__" := by decide) (hdb:(x==("__debug__" : Str))=false:=by decide)
  (he:starEach (e::es) X.env=(false,eval e X.env)::starEach es X.env:=by rfl) (hpl:(backTo pos (starEach es X.env)).any (·.1)=false:=by rfl):PE X (.Call (.Name x p) (e::es) [] pos) (WY r t):=by
 refine .mk ?_
 intro pins s σ H Q I h
 refine rY (iR I hg hm hv ?_ hn hdb)
 exact PyProof.Rows.callWith_type1 (cQ (ha pos pins s σ H _ I h) fun us s1 ⟨vs,H1,I1,r1,q1⟩=>hc pins s1 σ H1 vs us Q I1 r1 q1) he hpl
theorem HB (hc:cT X (.type T) r) (hg:Gl X x) (hm:X.mg x=none) (hv:bootBuiltins x=some (.type T)) (hn:x ≠ "__name__" := by decide) (hdb:(x==("__debug__" : Str))=false:=by decide) :
  PE X (.Call (.Name x p) [] [] pos) (WY r Tg):=by
 refine .mk ?_
 intro pins s σ H Q I h
 refine rY (iR I hg hm hv ?_ hn hdb)
 exact PyProof.Rows.callWith_type0 (hc pins s σ H [] [] Q I .nil h)
end
end L2
namespace HT
open PySem PyProof.Rows
section
open PySem.SeqAt
open PySem.AutoSeq1 (wpAny_loadPart')
open PySem.MeetsSeq PySem.MeetsSeq2 PySem.MeetsSeq3
end
section
variable {prog:Program} {w:World} {A:Around} {E:Value->Shared->Prop} {s:Shared}
theorem Vk {t b:Addr} {vs ws:List Value} {Q:Value->Shared->Prop} (ht:IsTup s.heap t vs.toArray) (hb:IsTup s.heap b ws.toArray) (hv:vs≠[])
  (h1:ws=[]->Q (.ref t) s) (h2:ws≠[]->Q (.ref s.heap.objs.size) { s with heap:=s.heap.push { cls:=.type "tuple",data:=.seq (vs++ws).toArray } })
  (hsz:vs.length+ws.length<=sizeLine):wpAny (model prog w) A (binaryOp .Add (.ref t) (.ref b)) Q E s:=by
 obtain⟨⟨cls,dd,data,sl⟩,ho,hc,n,hd⟩:=id ht
 obtain⟨⟨cls2,dd2,data2,sl2⟩,ho2,hc2,n2,hd2⟩:=id hb
 simp only at hc hd hc2 hd2
 subst hc hd hc2 hd2
 have e:vs.toArray++ws.toArray=(vs++ws).toArray:=by simp
 by_cases hw:ws=[]
 ·exact concat_meets ⟨_,ho,rfl⟩ ⟨_,ho2,rfl⟩ noFill_tuple_add seq_tuple_add PySem.F.slot_tuple_add PySem.F.entry_tuple_add (PySem.F.args_tuple_add_2 _ _)
   (tuple_addW1 t b vs.toArray ws.toArray n n2 dd dd2 sl sl2 (by simpa using hv) (by simp[hw])) ⟨ho,ho2,h1 hw⟩
 ·refine concat_meets ⟨_,ho,rfl⟩ ⟨_,ho2,rfl⟩ noFill_tuple_add seq_tuple_add PySem.F.slot_tuple_add PySem.F.entry_tuple_add (PySem.F.args_tuple_add_2 _ _)
   (tuple_addW2 t b vs.toArray ws.toArray n n2 dd dd2 sl sl2 (by simpa using hv) (by simpa using hw) (by rw[fB,fB]; exact hsz)) ⟨ho,ho2,?_⟩
  rw[e]
  exact h2 hw
def fO (n d:Nat):Option Int->Nat
 | none=>d
 | some v=>if v<0 then(v+(n:Int)).toNat else min v.toNat n
theorem D_ (n d:Nat):fO n d none=d:=rfl
theorem nO (n d k:Nat):fO n d (some (k:Int))=min k n:=by
 show(if(k:Int)<0 then((k:Int)+(n:Int)).toNat else min (k:Int).toNat n)=min k n
 rw[bB (by omega),rW]
theorem Xa (n d:Nat) (hd:d<=n) (o:Option Int):fO n d o<=n:=by
 cases o with
 | none=>exact hd
 | some v=>
  show(if v<0 then(v+(n:Int)).toNat else min v.toNat n)<=n
  by_cases hv:v<0
  ·rw[aL hv]; omega
  ·rw[bB hv]; exact Nat.min_le_right _ _
theorem KQ (v:Int) (n d:Nat):(if v<0 then max (v+(n:Int)) 0 else min v (n:Int))=((fO n d (some v):Nat):Int):=by
 show(if v<0 then max (v+(n:Int)) 0 else min v (n:Int))=(((if v<0 then(v+(n:Int)).toNat else min v.toNat n):Nat):Int)
 by_cases hv:v<0
 ·simp only[aL hv]; omega
 ·simp only[bB hv]; omega
theorem I_ (lo hi:Option Int) (n:Nat):Builtin.Slice.sliceAdjust lo hi 1 (n:Int)=(((fO n 0 lo:Nat):Int),((fO n n hi:Nat):Int)):=by
 have h1:¬((1:Int)<0):=by omega
 unfold Builtin.Slice.sliceAdjust
 simp only[h1,if_false]
 refine Prod.ext ?_ ?_
 ·cases lo with
  | none=>rfl
  | some v=>exact KQ v n 0
 ·cases hi with
  | none=>rfl
  | some v=>exact KQ v n n
theorem Hy (i j:Nat):Builtin.Slice.slicePlaces (i:Int) (j:Int) 1=j-i:=by
 unfold Builtin.Slice.slicePlaces
 have h1:(1:Int)>0:=by omega
 simp only[h1,if_true,Int.ediv_one]
 split <;> omega
theorem uZ {v:Value} {o:Option Int} {Q:Option Int->Shared->Prop} (p:IsPart v o) (h:Q o s):wpAny (model prog w) A (Builtin.Slice.slicePartIndex v) Q E s:=by
 cases p with
 | none=>exact slicePart_none h
 | int i t=>exact slicePart_int h
theorem j_ {sl:Addr} {vl vu:Value} {lo hi:Option Int} {n:Nat} {Q:Int×Int×Nat->Shared->Prop} (hs:s.heap.IsSliceOf sl vl vu .none) (pl:IsPart vl lo) (pu:IsPart vu hi)
  (h:Q (((fO n 0 lo:Nat):Int),1,fO n n hi-fO n 0 lo) s):wpAny (model prog w) A (Builtin.Slice.sliceApplied (.ref sl) (pure (n:Int))) Q E s:=by
 obtain⟨os,hos,hcs,hds⟩:=id hs
 unfold Builtin.Slice.sliceApplied Builtin.Slice.sliceFields
 refine aQ (aQ (ji hos hds (x:=vl) rfl (aQ (ji hos hds (x:=vu) rfl (aQ (ji hos hds (x:=.none) rfl (bU ?_)))))))
 refine aQ (slicePart_none ?_)
 show wpAny _ _ (if((1:Int)==0)=true then _ else _) _ _ s
 rw[bB (by decide)]
 refine aQ (uZ pl (aQ (uZ pu (aQ (bU ?_)))))
 show wpAny _ _ (match Builtin.Slice.sliceAdjust lo hi 1 (n:Int) with | (lo,hi)=>pure (lo,(1:Int),Builtin.Slice.slicePlaces lo hi 1)) _ _ s
 rw[I_ lo hi n]
 show wpAny _ _ (pure (((fO n 0 lo:Nat):Int),(1:Int),Builtin.Slice.slicePlaces ((fO n 0 lo:Nat):Int) ((fO n n hi:Nat):Int) 1)) _ _ s
 rw[Hy]
 exact bU h
theorem QC (xs:Array Value) (i k:Nat):((List.range k).filterMap fun(m:Nat)=>xs[((i:Int)+(m:Int)*1).toNat]?).toArray=((xs.toList.drop i).take k).toArray:=by
 have e:(fun(m:Nat)=>xs[((i:Int)+(m:Int)*1).toNat]?)=fun m=>xs[i+m]?:=by
  funext m
  have:((i:Int)+(m:Int)*1).toNat=i+m:=by omega
  rw[this]
 rw[e]
 have:=pick_run xs i k
 rw[List.filterMap_map] at this
 have e2:((fun x=>xs[x]?)∘fun x=>i+x)=fun m=>xs[i+m]?:=rfl
 rw[e2] at this
 rw[this]
theorem qL {t sl:Addr} {items:Array Value} {vl vu:Value} {lo hi:Option Int} {Q:Value->Shared->Prop} (ht:IsTup s.heap t items) (hs:s.heap.IsSliceOf sl vl vu .none) (pl:IsPart vl lo) (pu:IsPart vu hi)
  (hw:¬(fO items.size 0 lo=0/\fO items.size items.size hi=items.size))
  (h:Q (.ref s.heap.objs.size) { s with heap:=s.heap.push { cls:=.type "tuple",data:=.seq ((items.toList.drop (fO items.size 0 lo)).take (fO items.size items.size hi-fO items.size 0 lo)).toArray } })
  (hsz:items.size<=sizeLine):wpAny (model prog w) A (getItem (.ref t) (.ref sl)) Q E s:=by
 have Kp:sizeOk (.seq ((items.toList.drop (fO items.size 0 lo)).take (fO items.size items.size hi-fO items.size 0 lo)).toArray):=by
  show((items.toList.drop (fO items.size 0 lo)).take (fO items.size items.size hi-fO items.size 0 lo)).toArray.size<=sizeLine
  rw[fB,jj,vJ,l_]
  omega
 have hj:fO items.size items.size hi<=items.size:=Xa _ _ (bF _) hi
 obtain⟨os,hos,hcs,hds⟩:=id hs
 have hTs:s.TypeIs (.ref sl) "slice" := ⟨os,hos,hcs⟩
 unfold getItem
 try with_reducible refine rQ ?_
 first | refine aQ (bU ?_) | skip
 refine aQ (wpAny_sequenceKey ht.typeIs (by decide) ?_)
 refine aQ (Ma (name:=Str.ofString "__getitem__") ht.typeIs PyProof.Rows.slot_tuple_getitem
  (vK PyProof.Rows.slot_tuple_getitem ht.typeIs entry_tuple_getitem ?_ (args_tuple_getitem _ _)))
 show wpAny _ _ (Builtin.Tuple.tupleItemsOf (.ref t) >>= _) _ _ s
 refine aQ (tupleItemsOf_ ht ?_)
 refine aQ (wpAny_typeOf hTs ?_)
 rw[aL (by decide)]
 refine aQ (j_ hs pl pu ?_)
 have hno:¬((((fO items.size 0 lo:Nat):Int)==0&&(1:Int)==1&&(fO items.size items.size hi-fO items.size 0 lo)==items.size)=true):=by
  intro q
  rw[Bx,Bx] at q
  have q1:((fO items.size 0 lo:Nat):Int)=0:=eq_of_beq q.1.1
  have q2:fO items.size items.size hi-fO items.size 0 lo=items.size:=eq_of_beq q.2
  exact hw ⟨by omega,by omega⟩
 show wpAny _ _ (if(((fO items.size 0 lo:Nat):Int)==0&&(1:Int)==1&&(fO items.size items.size hi-fO items.size 0 lo)==items.size)=true then _ else _) _ _ s
 rw[bB hno,QC]
 first
  | exact aQ (m:=Builtin.Tuple.tupleExact _) (uf (bU ⟨_,rfl,bU h⟩) Kp)
  | exact aQ (m:=Builtin.Tuple.tupleExact _) (uf (aQ (bU (bU ⟨_,rfl,bU h⟩))) Kp)
  | exact aQ (aQ (m:=Builtin.Tuple.tupleExact _) (uf (bU (bU ⟨_,rfl,bU h⟩)) Kp))
  | exact aQ (aQ (m:=Builtin.Tuple.tupleExact _) (uf (bU ⟨_,rfl,bU h⟩) Kp))
end
end HT
namespace L2
open PySem PySem.Spec PyProof.Rows
abbrev TO:=St->Hp->(Option Int->Hp->Prop)->Prop
structure PO (X:Cx) (e:Option Expr) (t:TO):Prop where
 mk ::
 go :
 ∀(pins:List (Addr×Obj)) (s:Shared) (σ:St) (H:Hp) (Q:Option Int->Hp->Prop),Inv X pins σ H s->t σ H Q ->
  wpAny (model X.prog X.w) X.A (evalPart e X.env) (fun u s'=>∃o H',Inv X pins σ H' s'/\IsPart u o/\Q o H') X.xe s
instance {X:Cx} {e:Option Expr} {t:TO}:CoeFun (PO X e t) (fun _=>
 ∀(pins:List (Addr×Obj)) (s:Shared) (σ:St) (H:Hp) (Q:Option Int->Hp->Prop),Inv X pins σ H s->t σ H Q ->
  wpAny (model X.prog X.w) X.A (evalPart e X.env) (fun u s'=>∃o H',Inv X pins σ H' s'/\IsPart u o/\Q o H') X.xe s):=⟨PO.go⟩
def Jc:TO:=fun _ H Q=>Q none H
def VF (t:TE):TO:=fun σ H Q=>t σ H fun x H1=>∃i,x=.int i/\Q (some i) H1
section
variable {X:Cx} {e:Expr} {te:TE} {lo hi:Option Expr} {tl th:TO} {pos p2:Pos}
theorem eY:PO X none Jc:=by
 refine .mk ?_
 intro pins s σ H Q I h
 rw[evalPart_none]
 exact bU ⟨none,H,I,.none,h⟩
theorem cV (h:PE X e te):PO X (some e) (VF te):=by
 refine .mk ?_
 intro pins s σ H Q I hw
 rw[evalPart_some]
 refine cQ (h pins s σ H _ I hw) fun u s1 qx=>?_
 obtain⟨x,H1,I1,r1,q1⟩:=qx
 obtain⟨i,rfl,q⟩:=q1
 obtain⟨t,rfl⟩:=r1
 exact⟨some i,H1,I1,.int i t,q⟩
structure Ys (X:Cx) (r:V->Option Int->Option Int->Hp->VK->Prop):Prop where
 mk ::
 go :
 ∀(pins:List (Addr×Obj)) (s:Shared) (σ:St) (H:Hp) (x:V) (v vl vu:Value) (lo hi:Option Int) (sl:Addr) (Q:VK),Inv X pins σ H s->RelV x v->s.heap.IsSliceOf sl vl vu .none->IsPart vl lo->IsPart vu hi->r x lo hi H Q ->
  ∃T id,typeLookup (.type T) "__getitem__" = pure (some (.builtin id))/\s.TypeIs v T/\wpAny (model X.prog X.w) X.A (getItem v (.ref sl)) (EP X pins σ Q) X.xe s
instance {X:Cx} {r:V->Option Int->Option Int->Hp->VK->Prop}:CoeFun (Ys X r) (fun _=>
 ∀(pins:List (Addr×Obj)) (s:Shared) (σ:St) (H:Hp) (x:V) (v vl vu:Value) (lo hi:Option Int) (sl:Addr) (Q:VK),Inv X pins σ H s->RelV x v->s.heap.IsSliceOf sl vl vu .none->IsPart vl lo->IsPart vu hi->r x lo hi H Q ->
  ∃T id,typeLookup (.type T) "__getitem__" = pure (some (.builtin id))/\s.TypeIs v T/\wpAny (model X.prog X.w) X.A (getItem v (.ref sl)) (EP X pins σ Q) X.xe s):=⟨Ys.go⟩
def tSl (r:V->Option Int->Option Int->Hp->VK->Prop) (te:TE) (tl th:TO):TE:=fun σ H Q=>te σ H fun x H1=>tl σ H1 fun l H2=>th σ H2 fun u H3=>r x l u H3 Q
theorem dh {r:V->Option Int->Option Int->Hp->VK->Prop} (hr:Ys X r) (he:PE X e te) (hl:PO X lo tl) (hu:PO X hi th):PE X (.Subscript e (.Slice lo hi none p2) pos) (tSl r te tl th):=by
 refine .mk ?_
 intro pins s σ H Q I h
 refine Subscript_ (cQ (he pins s σ H _ I h) fun v s1 qx=>?_)
 obtain⟨x,H1,I1,r1,q1⟩:=qx
 refine wpAny_Slice (cQ (hl pins s1 σ H1 _ I1 q1) fun vl s2 ⟨l,H2,I2,pl,q2⟩=>cQ (hu pins s2 σ H2 _ I2 q2) fun vu s3 qx=>?_)
 obtain⟨u,H3,I3,pu,q3⟩:=qx
 rw[evalPart_none]
 refine bU ?_
 have I4:Inv X pins σ H3 { s3 with heap:=s3.heap.push { cls:=.type "slice",data:=.fields #[vl,vu,.none] } }:=I3.kept (t':=s3.toks) fun b ob q=>eO _ q
 obtain⟨T,id,hT,ht,hg⟩:=hr pins { s3 with heap:=s3.heap.push { cls:=.type "slice",data:=.fields #[vl,vu,.none] } } σ H3 x v vl vu l u s3.heap.objs.size Q I4 r1 (Heap.IsSliceOf.new ..) pl pu q3
 show wpAny (model X.prog X.w) X.A (subscriptTail e (.Slice lo hi none p2) v (.ref s3.heap.objs.size)) (EP X pins σ Q) X.xe { s3 with heap:=s3.heap.push { cls:=.type "slice",data:=.fields #[vl,vu,.none] } }
 exact tail_any (ops:=[.ref s3.heap.objs.size,v]) ht hT hg (by with_unfolding_all rfl)
def mj (xs:List V) (lo hi:Option Int):List V:=(xs.drop (HT.fO xs.length 0 lo)).take (HT.fO xs.length xs.length hi-HT.fO xs.length 0 lo)
theorem tZ (xs:List V) (lo hi:Option Int):(mj xs lo hi).length<=xs.length:=by
 unfold mj
 rw[jj,vJ]
 omega
def abV (K:PySem.W.Frag):V->Option Int->Option Int->Hp->VK->Prop:=fun x lo hi H Q=>∃a xs,x=.ref a/\cG K H a xs /\
 ¬(HT.fO xs.length 0 lo=0/\HT.fO xs.length xs.length hi=xs.length)/\∀p,H p=none->Q (.ref p) (upd H p (.tup (mj xs lo hi)))
theorem W8:Ys X (abV X.K):=by
 refine .mk ?_
 intro pins s σ H x v vl vu lo hi sl Q I rx hs pl pu h
 obtain⟨a,xs,rfl,hx,hw,q⟩:=h
 cases rx
 obtain⟨its,r,ht,hz⟩:=I.tuple hx
 have hlen:its.toArray.size=xs.length:=by rw[fB]; exact r.length.symm
 refine⟨"tuple",_,PyProof.Rows.slot_tuple_getitem.lookup,ht.typeIs,?_⟩
 refine HT.qL ht hs pl pu (by rw[hlen]; exact hw) ?_ (by rw[hlen]; exact hz)
 rw[hlen]
 refine⟨.ref s.heap.objs.size,_,I.laid (t':=s.toks) (o:=.tup (mj xs lo hi)) (fun b ob q=>eO _ q) (bF _) ?_,rfl,q _ (I.hok.fresh (bF _))⟩
 exact⟨oG (tZ xs lo hi) hz,_,(r.drop (HT.fO xs.length 0 lo)).take (HT.fO xs.length xs.length hi-HT.fO xs.length 0 lo),IsTup.new _ _⟩
def Z6 (K:PySem.W.Frag):R2:=fun x y H Q=>∃a b xs ys,x=.ref a/\y=.ref b/\cG K H a xs/\cG K H b ys/\xs≠[]/\xs.length+ys.length<=sizeLine /\
 (ys=[]->Q (.ref a) H)/\(ys≠[]->∀p,H p=none->Q (.ref p) (upd H p (.tup (xs++ys))))
theorem Vals.Ci {xs:List V} {us:List Value} (r:Vals xs us):us=[]↔xs=[]:=by
 cases r with
 | nil=>simp
 | cons _ _=>simp
theorem Uk:rm X (binaryOp .Add) (Z6 X.K):=by
 refine .mk ?_
 intro pins s σ H x y v u Q I rx ry h
 obtain⟨a,b,xs,ys,rfl,rfl,ha,hb,hx,hz,q1,q2⟩:=h
 cases rx
 cases ry
 obtain⟨its,r1,p1,_⟩:=I.tuple ha
 obtain⟨its2,r2,p2,_⟩:=I.tuple hb
 refine HT.Vk p1 p2 (fun z=>hx (r1.Ci.mp z)) (fun z=>⟨.ref a,H,I,rfl,q1 (r2.Ci.mp z)⟩) (fun z=>?_) (by rw[<- r1.length,<- r2.length]; exact hz)
 refine⟨.ref s.heap.objs.size,_,I.laid (t':=s.toks) (o:=.tup (xs++ys)) (fun b ob q=>eO _ q) (bF _) ?_,rfl,q2 (fun w=>z (r2.Ci.mpr w)) _ (I.hok.fresh (bF _))⟩
 exact⟨by rw[fP]; exact hz,_,r1.append r2,IsTup.new _ _⟩
end
def Rh (n:Nat) (i:Int):Option Nat:=if 0<=i then(if i<n then some i.toNat else none) else if -(n:Int)<=i then some (i+n).toNat else none
def Dq {α:Type} (xs:List α) (i:Int):Option α:=(Rh xs.length i).bind fun j=>xs[j]?
theorem Kf {n:Nat} {i:Int} {j:Nat} (h:Rh n i=some j):seqIndex? i n=some j/\j<n/\-(n:Int)<=i/\i<n:=by
 unfold Rh at h
 by_cases h0:0<=i
 ·rw[aL h0] at h
  by_cases h1:i<n
  ·rw[aL h1] at h
   have e:i.toNat=j:=Option.some.inj h
   exact⟨by rw[seqIndex_of h0 h1,e],by omega,by omega,h1⟩
  ·rw[bB h1] at h; cases h
 ·rw[bB h0] at h
  by_cases h1:-(n:Int)<=i
  ·rw[aL h1] at h
   have e:(i+n).toNat=j:=Option.some.inj h
   exact⟨by rw[seqIndex_neg (by omega) h1,e],by omega,h1,by omega⟩
  ·rw[bB h1] at h; cases h
theorem qY {α:Type} {xs:List α} {i:Int} {v:α} (h:Dq xs i=some v):∃j,seqIndex? i xs.length=some j/\xs[j]?=some v/\j<xs.length/\-(xs.length:Int)<=i/\i<xs.length:=by
 unfold Dq at h
 cases e:Rh xs.length i with
 | none=>rw[e] at h; cases h
 | some j=>
  rw[e] at h
  obtain⟨h1,h2,h3,h4⟩:=Kf e
  exact⟨j,h1,h,h2,h3,h4⟩
theorem bx {α:Type} {xs:List α} {j:Nat} {v:α} (h:xs[j]?=some v):Dq xs (j:Int)=some v:=by
 have hj:j<xs.length:=(iQ.mp h).1
 have e:Rh xs.length (j:Int)=some j:=by
  unfold Rh
  rw[aL (by omega),aL (by omega)]; simp
 unfold Dq; rw[e]; exact h
theorem Gz {α:Type} (xs:List α) (v:α):Dq (xs++[v]) (-1)=some v:=by
 have hl:(xs++[v]).length=xs.length+1:=by simp
 have e:Rh (xs++[v]).length (-1)=some xs.length:=by
  unfold Rh
  rw[hl,bB (by decide),aL (by omega)]
  congr 1
  omega
 unfold Dq
 rw[e]
 show(xs++[v])[xs.length]?=some v
 simp
def Vs (b:Expr):Prop:=∀o i,subscripted b false o i=operate [o,i] (getItem o i)
structure Sv (X:Cx) (r:R2):Prop where
 mk ::
 go :
 ∀(value slice:Expr) (pins:List (Addr×Obj)) (s:Shared) (σ:St) (H:Hp) (x y:V) (v u:Value) (Q:VK),Inv X pins σ H s->RelV x v->RelV y u->r x y H Q ->
  subscripted slice false v u=operate [v,u] (getItem v u)->wpAny (model X.prog X.w) X.A (subscriptTail value slice v u) (EP X pins σ Q) X.xe s
instance {X:Cx} {r:R2}:CoeFun (Sv X r) (fun _=>
 ∀(value slice:Expr) (pins:List (Addr×Obj)) (s:Shared) (σ:St) (H:Hp) (x y:V) (v u:Value) (Q:VK),Inv X pins σ H s->RelV x v->RelV y u->r x y H Q ->
  subscripted slice false v u=operate [v,u] (getItem v u)->wpAny (model X.prog X.w) X.A (subscriptTail value slice v u) (EP X pins σ Q) X.xe s):=⟨Sv.go⟩
def MtR (X:Cx) (id:String) (r:V->List V->Hp->VK->Prop):Prop:=
 ∀(pins:List (Addr×Obj)) (s:Shared) (σ:St) (H:Hp) (x:V) (xs:List V) (v:Value) (us:List Value) (Q:VK),Inv X pins σ H s->RelV x v->Vals xs us->r x xs H Q ->
  wpAny (model X.prog X.w) X.A (call (.builtin id) (v::us)) (EP X pins σ Q) X.xe s
section
variable {X:Cx} {a b:Expr} {ta tb:TE} {pos:Pos}
theorem Sv.or {r r':R2} (h:Sv X r) (h':Sv X r'):Sv X (fun x y H Q=>r x y H Q\/r' x y H Q):=by
 refine .mk ?_
 intro value slice pins s σ H x y v u Q I rx ry q hs
 rcases q with q | q
 ·exact h value slice pins s σ H x y v u Q I rx ry q hs
 ·exact h' value slice pins s σ H x y v u Q I rx ry q hs
theorem aZ {r:R2} (hr:Sv X r) (ha:PE X a ta) (hb:PE X b tb) (hs:Vs b):PE X (.Subscript a b pos) (Tf r ta tb):=by
 refine .mk ?_
 intro pins s σ H Q I h
 exact Subscript_ (Yo ha hb I h fun v u s2 x y H2 I2 rx ry q=>hr a b pins s2 σ H2 x y v u Q I2 rx ry q (hs _ _))
def abZ (K:PySem.W.Frag):R2:=fun x y H Q=>∃p xs i v,x=.ref p/\y=.int i/\dX K H p xs/\Dq xs i=some v/\Q v H
def abY (K:PySem.W.Frag):R2:=fun x y H Q=>∃p xs i v,x=.ref p/\y=.int i/\cG K H p xs/\Dq xs i=some v/\Q v H
theorem Kd:Sv X (abZ X.K):=by
 refine .mk ?_
 intro value slice pins s σ H x y v u Q I rx ry h hs
 obtain⟨p,xs,i,z,rfl,rfl,hq,he,q⟩:=h
 cases rx
 obtain⟨t,rfl⟩:=ry
 obtain⟨its,r,pl,hz⟩:=I.list hq
 obtain⟨j,h1,h2,h3,h4,h5⟩:=qY he
 obtain⟨w,ew,Xb⟩:=r.get h2
 have hl:=r.length
 have hn:=wH
 have fin:EP X pins σ Q w s:=⟨z,H,I,Xb,q⟩
 by_cases h0:0<=i
 ·have hj:i.toNat=j:=by
   rw[seqIndex_of h0 h5] at h1
   exact Option.some.inj h1
  exact item_listR pl.isList h0 (by omega) (by rw[hj]; simpa using ew) fin hs
 ·have hj:(i+(its.toArray.size:Int)).toNat=j:=by
   rw[seqIndex_neg (by omega) h4] at h1
   rw[fB,<- hl]
   exact Option.some.inj h1
  exact subscriptTail_builtinR (x:=w) pl.isList.typeIs slot_list_getitem.lookup
   (wpAny_getItem_list_neg (Q:=fun r s'=>r=w/\EP X pins σ Q r s') pl.isList (by omega) (by rw[fB] <;> omega) (by omega) (by rw[hj]; simpa using ew) ⟨rfl,fin⟩) hs
theorem X7:Sv X (abY X.K):=by
 refine .mk ?_
 intro value slice pins s σ H x y v u Q I rx ry h hs
 obtain⟨p,xs,i,z,rfl,rfl,hq,he,q⟩:=h
 cases rx
 obtain⟨t,rfl⟩:=ry
 obtain⟨its,r,pl,hz⟩:=I.tuple hq
 obtain⟨j,h1,h2,h3,h4,h5⟩:=qY he
 obtain⟨w,ew,Xb⟩:=r.get h2
 have hl:=r.length
 have hn:=wH
 have fin:EP X pins σ Q w s:=⟨z,H,I,Xb,q⟩
 exact subscriptTail_builtinR (x:=w) pl.typeIs slot_tuple_getitem.lookup
  (getItem_tuple (j:=j) (Q:=fun r s'=>r=w/\EP X pins σ Q r s') pl (by omega) (by omega) (by rw[fB,<- hl]; exact h1) (by simpa using ew) ⟨rfl,fin⟩) hs
theorem HX (its:List Value) (n j:Nat) (u:Value):Obj.mapSeq (·.setIfInBounds j u) { cls:=.type "list",data:=.seq its.toArray n }={ cls:=.type "list",data:=.seq (its.set j u).toArray n }:=by
 simp[Obj.mapSeq]
theorem Inv.lst {pins:List (Addr×Obj)} {σ:St} {H:Hp} {s:Shared} {p:Addr} {xs:List V} (I:Inv X pins σ H s) (h:H p=some (.lst xs)) :
  ∃(its:List Value) (n:Nat),Vals xs its/\s.heap.get? p=some { cls:=.type "list",data:=.seq its.toArray n }/\xs.length<=sizeLine:=by
 obtain⟨z,its,n,r,e⟩:=I.hok p _ h
 exact⟨its,n,r,e,z⟩
theorem Inv.XR {pins:List (Addr×Obj)} {σ:St} {H:Hp} {s:Shared} {p:Addr} {xs ys:List V} {its its':List Value} {n n':Nat} {f:Obj->Obj} (I:Inv X pins σ H s) (h:H p=some (.lst xs))
  (ho:s.heap.get? p=some { cls:=.type "list",data:=.seq its.toArray n }) (hf:f { cls:=.type "list",data:=.seq its.toArray n }={ cls:=.type "list",data:=.seq its'.toArray n' }) (r:Vals ys its') (hz:ys.length<=sizeLine) (t:Nat) :
  Inv X pins σ (upd H p (.lst ys)) { s with heap:=s.heap.update p f,toks:=t }:=by
 have e:(s.heap.update p f).get? p=some { cls:=.type "list",data:=.seq its'.toArray n' }:=by
  rw[yf f ho (by rw[hf] <;> rfl),hf]
 refine I.write (x:=p) (e:=p) (by rw[h]; trivial) (.inl rfl) (fun b u hb q=>(ug _ _ (Ne.symm hb)).trans q) ⟨_,e⟩ ?_
 exact⟨hz,its',n',r,e⟩
def Z2:V->V->V->Hp->(Hp->Prop)->Prop:=fun o i v H Q=>∃p xs k j,o=.ref p/\i=.int k/\H p=some (.lst xs)/\Rh xs.length k=some j/\Q (upd H p (.lst (xs.set j v)))
theorem set_list:R7 X Z2:=by
 refine .mk ?_
 intro pins s σ H o i v ov iv u Q I ro ri rv h
 obtain⟨p,xs,k,j,rfl,rfl,hp,hj,q⟩:=h
 cases ro
 obtain⟨t,rfl⟩:=ri
 obtain⟨its,n,r,ho,hz⟩:=I.lst hp
 obtain⟨h1,h2,h3,h4⟩:=Kf hj
 have hl:=r.length
 have hn:=wH
 have I':Inv X pins σ (upd H p (.lst (xs.set j v))) { s with heap:=s.heap.update p (Obj.mapSeq (·.setIfInBounds j u)) }:=
  I.XR hp ho (HX its n j u) (r.set rv j) (by rw[List.length_set]; exact hz) s.toks
 by_cases h0:0<=k
 ·have hk:k.toNat=j:=by
   rw[seqIndex_of h0 h4] at h1
   exact Option.some.inj h1
  exact PySem.W.ki_setAt ho h0 (by omega) (by rw[fB,<- hl]; exact h4) (by rw[hk]; exact⟨_,I',q⟩)
 ·have hk:(k+(its.toArray.size:Int)).toNat=j:=by
   rw[seqIndex_neg (by omega) h3] at h1
   rw[fB,<- hl]
   exact Option.some.inj h1
  exact PySem.W.ki_setBack ho (by omega) (by rw[fB,<- hl]; exact h3) (by omega) (by rw[hk]; exact⟨_,I',q⟩)
theorem Bq (lo hi:Option Int) (n:Nat):(sliceBounds lo hi none n).1=((HT.fO n 0 lo:Nat):Int)/\(sliceBounds lo hi none n).2.1=((HT.fO n n hi:Nat):Int)/\(sliceBounds lo hi none n).2.2=1:=by
 refine⟨?_,?_,rfl⟩
 ·cases lo with
  | none=>simp[sliceBounds,HT.fO]
  | some i=>
   simp only[sliceBounds,HT.fO,Option.getD_none,show(1:Int)>0 by decide,if_true]
   by_cases h:i<0
   ·simp only[h,if_true] <;> omega
   ·simp only[h,if_false] <;> omega
 ·cases hi with
  | none=>simp[sliceBounds,HT.fO]
  | some i=>
   simp only[sliceBounds,HT.fO,Option.getD_none,show(1:Int)>0 by decide,if_true]
   by_cases h:i<0
   ·simp only[h,if_true] <;> omega
   ·simp only[h,if_false] <;> omega
theorem xY (its:List Value) (lo hi:Option Int):slicePick its.toArray lo hi none=((its.drop (HT.fO its.length 0 lo)).take (HT.fO its.length its.length hi-HT.fO its.length 0 lo)).toArray:=by
 obtain⟨h1,h2,h3⟩:=Bq lo hi its.toArray.size
 unfold slicePick
 rw[h1,h2,h3]
 simp only[sliceRange_one,pick_run,fB] <;> rfl
def Qo (K:PySem.W.Frag):V->Option Int->Option Int->Hp->VK->Prop:=fun x lo hi H Q=>∃a xs,x=.ref a/\dX K H a xs/\∀p,H p=none->Q (.ref p) (upd H p (.lst (mj xs lo hi)))
theorem pZ:Ys X (Qo X.K):=by
 refine .mk ?_
 intro pins s σ H x v vl vu lo hi sl Q I rx hs pl pu h
 obtain⟨a,xs,rfl,hx,q⟩:=h
 cases rx
 obtain⟨its,r,ht,hz⟩:=I.list hx
 have hlen:=r.length
 refine⟨"list",_,slot_list_getitem.lookup,ht.isList.typeIs,?_⟩
 refine wpAny_getItem_list_slice ht.isList hs pl pu .none (by simp) ?_ (by rw[fB] <;> omega)
 rw[xY,<- hlen]
 refine⟨.ref s.heap.objs.size,_,I.laid (t':=s.toks) (o:=.lst (mj xs lo hi)) (fun b ob q=>eO _ q) (bF _) ?_,rfl,q _ (I.hok.fresh (bF _))⟩
 exact⟨oG (tZ xs lo hi) hz,_,0,(r.drop (HT.fO xs.length 0 lo)).take (HT.fO xs.length xs.length hi-HT.fO xs.length 0 lo),dM _ rfl⟩
theorem Dc:cT X (.builtin "len") (fun xs H Q=>∃p ys,xs=[.ref p]/\(dX X.K H p ys\/cG X.K H p ys)/\Q (.int ys.length) H):=by
 refine .mk ?_
 intro pins s σ H xs us Q I r h
 obtain⟨p,ys,rfl,hq,q⟩:=h
 obtain⟨u,rfl,rx⟩:=vals1 r
 cases rx
 have hn:=wH
 rcases hq with hq | hq
 ·obtain⟨its,r',pl,hz⟩:=I.list hq
  have hlen:=r'.length
  exact Calls.call_len_list pl.isList (by simp only[fB] <;> omega) ⟨.int ys.length,H,I.tok _,⟨s.toks+1,by rw[fB,hlen]⟩,q⟩
 ·obtain⟨its,r',pl,hz⟩:=I.tuple hq
  have hlen:=r'.length
  exact len_tuple pl (by simp only[fB] <;> omega) ⟨.int ys.length,H,I.tok _,⟨s.toks+1,by rw[fB,hlen]⟩,q⟩
theorem qP:cT X (.type "list") (fun xs H Q=>∃p ys,xs=[.ref p]/\(dX X.K H p ys\/cG X.K H p ys)/\∀l,H l=none->Q (.ref l) (upd H l (.lst ys))):=by
 refine .mk ?_
 intro pins s σ H xs us Q I r h
 obtain⟨p,ys,rfl,hq,q⟩:=h
 obtain⟨u,rfl,rx⟩:=vals1 r
 cases rx
 have fin:∀(its:List Value),Vals ys its->ys.length<=sizeLine->∀(h':Heap) (c':Nat),(∀b o',s.heap.get? b=some o'->h'.get? b=some o') ->
   h'.get? s.heap.objs.size=some { cls:=.type "list",dict:=none,data:=.seq its.toArray c',slots:=#[] }->EP X pins σ Q (.ref s.heap.objs.size) { s with heap:=h' }:=fun its r' hz h' c' kp e=>
  ⟨.ref s.heap.objs.size,_,I.laid (t':=s.toks) kp (bF _) (show cz X.prog X.w _ h' _ (.lst ys) from⟨hz,its,c',r',e⟩),rfl,q _ (I.hok.fresh (bF _))⟩
 rcases hq with hq | hq
 ·obtain⟨its,r',pl,hz⟩:=I.list hq
  have hlen:=r'.length
  obtain⟨o,ho,hc,n,hd⟩:=pl.isList
  exact call_list_seq p (.inl rfl) ho hc hd (fun h' c' kp e=>fin its r' hz h' c' kp e) (by simp only[fB] <;> omega)
 ·obtain⟨its,r',pl,hz⟩:=I.tuple hq
  have hlen:=r'.length
  obtain⟨o,ho,hc,n,hd⟩:=pl
  exact call_list_seq p (.inr rfl) ho hc hd (fun h' c' kp e=>fin its r' hz h' c' kp e) (by simp only[fB] <;> omega)
theorem yr:cT X (.type "tuple") (fun xs H Q=>∃p ys,xs=[.ref p]/\((dX X.K H p ys/\∀l,H l=none->Q (.ref l) (upd H l (.tup ys)))\/(cG X.K H p ys/\Q (.ref p) H))):=by
 refine .mk ?_
 intro pins s σ H xs us Q I r h
 obtain⟨p,ys,rfl,h⟩:=h
 obtain⟨u,rfl,rx⟩:=vals1 r
 cases rx
 rcases h with⟨hq,q⟩ | ⟨hq,q⟩
 ·obtain⟨its,r',pl,hz⟩:=I.list hq
  have hlen:=r'.length
  refine call_tuple_list pl.isList (fun h' kp=>?_) (by simp only[fB] <;> omega)
  have I1:Inv X pins σ H { s with heap:=h' }:=I.kept (t':=s.toks) kp
  have I2:Inv X pins σ (upd H h'.objs.size (.tup ys)) { s with heap:=h'.push { cls:=.type "tuple",data:=.seq its.toArray } }:=
   I1.laid (t':=s.toks) (fun b o e=>eO _ e) (bF _) (show cz X.prog X.w _ _ _ (.tup ys) from⟨hz,its,r',IsTup.new _ _⟩)
  exact⟨.ref h'.objs.size,_,I2,rfl,q _ (I1.hok.fresh (bF _))⟩
 ·obtain⟨its,r',pl,hz⟩:=I.tuple hq
  exact call_tuple_same pl ⟨.ref p,H,I,rfl,q⟩
def tyV (K:PySem.W.Frag) (T:String) (x:V) (H:Hp):Prop:=match x with
 | .str _=>T = "str"
 | .int _=>T = "int"
 | .ref p=>(T = "list" /\ ∃xs,dX K H p xs)\/(T = "tuple" /\ ∃o,K.lookup p=some o/\o.cls=.type "tuple" /\ o.dict=none) \/
   (T = "dict" /\ ((∃kvs,H p=some (.dK kvs))\/∃kvs,H p=some (.dT kvs)))\/(T = "set" /\ ∃S n,H p=some (.set S n))
 | _=>False
theorem WR {pins:List (Addr×Obj)} {σ:St} {H:Hp} {s:Shared} {T:String} {x:V} {v:Value} (I:Inv X pins σ H s) (r:RelV x v) (ty:tyV X.K T x H) :
  s.TypeIs v T/\∀a,v=.ref a->∃ob,s.heap.get? a=some ob/\ob.dict=none:=by
 cases x with
 | str z=>
  obtain⟨t,rfl⟩:=r
  cases(show T = "str" from ty)
  exact⟨typeIs_str s z t,fun _ e=>nomatch e⟩
 | int i=>
  obtain⟨t,rfl⟩:=r
  cases(show T = "int" from ty)
  exact⟨typeIs_int s i t,fun _ e=>nomatch e⟩
 | ref p=>
  cases r
  rcases ty with⟨rfl,xs,hq⟩ | ⟨rfl,o,hk,hc,hd⟩ | ⟨rfl,hk⟩ | ⟨rfl,S,n,hk⟩
  ·obtain⟨its,_,pl,_⟩:=I.list hq
   refine⟨pl.isList.typeIs,fun a e=>?_⟩
   cases e
   obtain⟨o,n,e,c,hd,_⟩:=pl
   exact⟨o,e,hd⟩
  ·refine⟨⟨o,I.oJ p o hk,hc⟩,fun a e=>?_⟩
   cases e
   exact⟨o,I.oJ _ o hk,hd⟩
  ·have z:∃o,s.heap.get? p=some o/\o.ExactDict:=by
    rcases hk with⟨kvs,hk⟩ | ⟨kvs,hk⟩
    ·obtain⟨_,_,_,_,o,_,_,e,ex,_⟩:=I.hok p _ hk
     exact⟨o,e,ex⟩
    ·obtain⟨_,_,_,_,o,_,_,e,ex,_⟩:=I.hok p _ hk
     exact⟨o,e,ex⟩
   obtain⟨o,e,ex⟩:=z
   refine⟨⟨o,e,ex.1⟩,fun a e2=>?_⟩
   cases e2
   exact⟨o,e,ex.2.1⟩
  ·obtain⟨o,_,_,_,e,ex,_⟩:=I.hok p _ hk
   refine⟨⟨o,e,ex.1⟩,fun a e2=>?_⟩
   cases e2
   exact⟨o,e,ex.2.1⟩
 | _=>exact False.elim ty
def tBM (K:PySem.W.Frag) (T:String) (r:V->List V->Hp->VK->Prop) (to:TE) (t:TA):TE:=fun σ H Q=>to σ H fun x H1=>tyV K T x H1/\t σ H1 fun xs H2=>r x xs H2 Q
variable {o e:Expr} {es:List Expr} {to:TE} {t:TA} {name:Str} {apos cpos:Pos} {T id:String} {r:V->List V->Hp->VK->Prop}
theorem Z9 (pa:PlainAttrs T) (slot:Slot T name id) (hty:typeOf (.builtin id)=pure (.type "method_descriptor")) (hm:MtR X id r) (ho:PE X o to) (ha:PA X (e::es) t)
  (hbase:attributeBase o name X.env (eval o X.env)=eval o X.env:=by rfl)
  (hfew:((backTo cpos (starEach (e::es) X.env)).all (fun x=>!x.1)&&(backToKw cpos (keywordEach [] X.env)).all (fun x=>x.1.isSome)
   && decide ((e::es).length+([]:List Keyword).length+(if([]:List Keyword).isEmpty then 0 else 1)<30))=true:=by rfl)
  (hline:(apos.endLine==cpos.line)=true:=by rfl) (hs:starEach (e::es) X.env=(false,eval e X.env)::starEach es X.env:=by rfl) (hplain:(backTo cpos (starEach es X.env)).any (·.1)=false:=by rfl) :
  PE X (.Call (.Attribute o name apos) (e::es) [] cpos) (tBM X.K T r to t):=by
 refine .mk ?_
 intro pins s σ H Q I h
 refine wpAny_Call_method_late hbase hfew hline rfl (cQ (ho pins s σ H _ I h) fun v s1 qx=>?_)
 obtain⟨x,H1,I1,r1,ty,q1⟩:=qx
 obtain⟨h1,h2⟩:=WR I1 r1 ty
 refine⟨T,id,pa,slot,hty,h1,h2,?_⟩
 have hA:=ha cpos pins s1 σ H1 _ I1 q1
 rw[hs] at hA ⊢
 refine Calls.callWith_builtin (by show(false || (backTo cpos (starEach es X.env)).any (·.1))=false; rw[hplain] <;> rfl) (Calls.evalArgs_plain ?_)
 exact cQ hA fun us s2 ⟨vs,H2,I2,r2,q2⟩=>hm pins s2 σ H2 x vs v us Q I2 r1 r2 q2
end
def MtM (X:Cx) (id:String) (r:V->List V->Hp->VK->Prop):Prop:=
 ∀(pins:List (Addr×Obj)) (s:Shared) (σ:St) (H:Hp) (x:V) (xs:List V) (v:Value) (us:List Value) (Q:VK),Inv X pins σ H s->RelV x v->Vals xs us->r x xs H Q ->
  wpAny (model X.prog X.w) X.A (call (.builtin id) (v::us)) (EP X pins σ Q) X.xe s
theorem Vals.un {x:V} {xs:List V} {us:List Value} (h:Vals (x::xs) us):∃u r,us=u::r/\RelV x u/\Vals xs r:=by
 cases h with
 | cons r t=>exact⟨_,_,rfl,r,t⟩
theorem Vals.no {us:List Value} (h:Vals [] us):us=[]:=by
 cases h
 rfl
theorem Vals.one {x:V} {us:List Value} (h:Vals [x] us):∃u,us=[u]/\RelV x u:=by
 obtain⟨u,r,rfl,h1,h⟩:=h.un
 cases h.no
 exact⟨u,rfl,h1⟩
theorem Vals.two {x y:V} {us:List Value} (h:Vals [x,y] us):∃u v,us=[u,v]/\RelV x u/\RelV y v:=by
 obtain⟨u,r,rfl,h1,h⟩:=h.un
 obtain⟨v,rfl,h2⟩:=h.one
 exact⟨u,v,rfl,h1,h2⟩
theorem Vals.reverse {xs:List V} {us:List Value} (h:Vals xs us):Vals xs.reverse us.reverse:=by
 induction h with
 | nil=>exact .nil
 | cons r t ih=>rw[List.reverse_cons,List.reverse_cons]; exact Vals.append ih (.cons r .nil)
theorem Vals.rep {xs:List V} {us:List Value} (h:Vals xs us):∀k:Nat,Vals (List.replicate k xs).flatten (List.replicate k us).flatten
 | 0=>.nil
 | k+1=>by
  rw[EY,EY,Ex,Ex]
  exact Vals.append h (Vals.rep h k)
theorem foldl_rep (its:List Value):∀(k:Nat) (acc:List Value),
  List.foldl (fun x1 x2=>x1++x2) acc.toArray (List.replicate k its.toArray)=(acc++(List.replicate k its).flatten).toArray
 | 0,acc=>by simp
 | k+1,acc=>by
  have e:acc.toArray++its.toArray=(acc++its).toArray:=by simp
  have e2:(acc++its)++(List.replicate k its).flatten=acc++(List.replicate (k+1) its).flatten:=by
   rw[EY,Ex,vL]
  rw[<- e2,<- foldl_rep its k (acc++its),<- e,EY,List.foldl_cons]
section
variable {X:Cx} {pins:List (Addr×Obj)} {σ:St} {H:Hp} {s:Shared} {l b:Addr} {xs ys zs:List V}
theorem Inv.ach {its its':List Value} {n:Nat} {f:Array Value->Array Value} {t':Nat} (I:Inv X pins σ H s) (hH:H l=some (.lst xs))
  (e:s.heap.get? l=some { cls:=.type "list",data:=.seq its.toArray n }) (hf:f its.toArray=its'.toArray) (hv:Vals ys its') (hz:ys.length<=sizeLine) :
  Inv X pins σ (upd H l (.lst ys)) { s with heap:=s.heap.update l (Obj.mapSeq f),toks:=t' }:=by
 have q:=PySem.IsL.update e f
 rw[hf] at q
 refine I.write (x:=l) (e:=l) (by rw[hH]; exact trivial) (.inl rfl) (fun b' u hb hu=>(ug s.heap (Obj.mapSeq f) (Ne.symm hb)).trans hu) ⟨_,q⟩ ?_
 exact⟨hz,its',_,hv,q⟩
theorem Inv.UJ {its:List Value} {t':Nat} (I:Inv X pins σ H s) (hv:Vals ys its) (hz:ys.length<=sizeLine) :
  Inv X pins σ (upd H s.heap.objs.size (.lst ys)) { s with heap:=s.heap.push { cls:=.type "list",data:=.seq its.toArray },toks:=t' }:=
 I.laid (fun _ _ q=>eO _ q) (bF _) ⟨hz,its,0,hv,dM _ rfl⟩
theorem Inv.fresh (I:Inv X pins σ H s):H s.heap.objs.size=none:=I.hok.fresh (bF _)
theorem Inv.Uz (I:Inv X pins σ H s) (hH:H l=some (.lst xs)):xs.length<=sizeLine/\∃(its:List Value) (n:Nat),Vals xs its/\xs.length=its.length/\s.heap.get? l=some { cls:=.type "list",data:=.seq its.toArray n }:=by
 obtain⟨z,its,n,r,e⟩:=I.hok l _ hH
 exact⟨z,its,n,r,r.length,e⟩
theorem QV {n:Nat} (h:n<=sizeLine):Builtin.List.listTooLong n=false:=by
 unfold Builtin.List.listTooLong
 exact gY (by omega)
end
section
variable {X:Cx}
def Jx:V->List V->Hp->VK->Prop:=fun x vs H Q=>∃l xs y,x=.ref l/\vs=[y]/\H l=some (.lst xs)/\xs.length<sizeLine/\Q .non (upd H l (.lst (xs++[y])))
theorem fZ:MtM X "list.append" Jx:=by
 intro pins s σ H x vs v us Q I rx rv h
 obtain⟨l,xs,y,rfl,rfl,hH,hz,q⟩:=h
 cases rx
 obtain⟨u,rfl,ru⟩:=rv.one
 obtain⟨z,its,n,r,hl,e⟩:=I.Uz hH
 refine call_meets F.slot_list_append ⟨_,e,rfl⟩ F.entry_list_append (F.args_list_append_2 _ _) (PySem.list_append l its.toArray n u (by rw[fB]; omega)) ⟨e,?_⟩
 refine⟨.non,_,I.ach (its':=its++[u]) hH e (by simp) (r.append (.cons ru .nil)) ?_,rfl,q⟩
 rw[fP,List.length_singleton]
 omega
def Ed:R2:=fun x y H Q=>∃l b xs zs,x=.ref l/\y=.ref b/\H l=some (.lst xs)/\H b=some (.lst zs)/\xs.length+zs.length<=sizeLine/\∀p,H p=none->Q (.ref p) (upd H p (.lst (xs++zs)))
theorem v_:rm X (binaryOp .Add) Ed:=by
 refine .mk ?_
 intro pins s σ H x y v u Q I rx ry h
 obtain⟨l,b,xs,zs,rfl,rfl,hH,hB,hz,q⟩:=h
 cases rx
 cases ry
 obtain⟨z,its,n,r,hl,e⟩:=I.Uz hH
 obtain⟨z2,its2,n2,r2,hl2,e2⟩:=I.Uz hB
 refine PySem.P.add_list e e2 ?_ (by rw[fB,fB]; omega)
 have ea:its.toArray++its2.toArray=(its++its2).toArray:=by simp
 rw[ea]
 exact⟨.ref _,_,I.UJ (t':=s.toks) (r.append r2) (by rw[fP]; omega),rfl,q _ I.fresh⟩
def abW:R2:=fun x y H Q=>∃l k xs,x=.ref l/\y=.int k/\H l=some (.lst xs)/\-(2 ^ 63)<=k/\k<2 ^ 63/\xs.length*k.toNat<=sizeLine /\
 ∀p,H p=none->Q (.ref p) (upd H p (.lst (List.replicate k.toNat xs).flatten))
theorem len_rep {α:Type} (xs:List α) (k:Nat):(List.replicate k xs).flatten.length=k*xs.length:=by
 induction k with
 | zero=>simp
 | succ k ih=>rw[EY,Ex,fP,ih,Nat.succ_mul,Nat.add_comm]
theorem Xv:rm X (binaryOp .Mult) abW:=by
 refine .mk ?_
 intro pins s σ H x y v u Q I rx ry h
 obtain⟨l,k,xs,rfl,rfl,hH,h1,h2,hz,q⟩:=h
 cases rx
 obtain⟨t,rfl⟩:=ry
 obtain⟨z,its,n,r,hl,e⟩:=I.Uz hH
 have hlen:its.toArray.size*k.toNat<=sizeLine:=by rw[fB,<- hl]; exact hz
 have acz:¬its.toArray.size*k.toNat>(2 ^ 63-1) / 8:=by
  have:(sizeLine:Nat)<=(2 ^ 63-1) / 8:=by decide
  omega
 have hfit:¬(!Builtin.List.listFitsIndex k)=true:=by
  rw[fitsIndex_both h1 h2]
  exact kE
 have aax:¬Builtin.List.listTooLong (its.toArray.size*k.toNat)=true:=by
  rw[QV hlen]
  exact kE
 have hnew:List.foldl (fun x1 x2=>x1++x2) #[] (List.replicate (if its.toArray.isEmpty=true then 0 else k.toNat) its.toArray)=(List.replicate k.toNat its).flatten.toArray:=by
  have f0:∀m:Nat,List.foldl (fun x1 x2=>x1++x2) #[] (List.replicate m its.toArray)=(List.replicate m its).flatten.toArray:=fun m=>by
   have:=foldl_rep its m []
   rw[Hs] at this
   exact this
  rw[f0]
  cases its with
  | nil=>simp
  | cons a r'=>rw[bB (by simp)]
 refine wpAny_binaryOp_repeat_ref (T:="list") (U:="int") (by decide) ⟨_,e,rfl⟩ (fun s'=>typeIs_int s' k t) noFill_list_mul F.fills_int_mul F.slot_int_rmul repeat_list F.slot_int_index.lookup
  (call_meets F.slot_int_rmul (typeIs_int s k t) F.entry_int_rmul (F.args_int_rmul_2 _ _) (int___rmul___int_list k t l its.toArray n)
   ⟨e,rfl,⟨_,e,rfl⟩,call_meets F.slot_list_mul ⟨_,e,rfl⟩ F.entry_list_mul (F.args_list_mul_2 _ _) (AutoListH.list___mul___list_int_3 l its.toArray n k t hfit acz aax) ⟨e,?_⟩⟩)
 rw[hnew]
 exact⟨.ref _,_,I.UJ (t':=s.toks) (r.rep k.toNat) (by rw[len_rep,Nat.mul_comm]; exact hz),rfl,q _ I.fresh⟩
end
section
variable {prog:Program} {w:World} {A:Around} {E:Value->Shared->Prop} {s:Shared}
end
section
variable {X:Cx}
end
end L2
namespace Att
open PySem PySem.W PySem.Calls PyProof.Rows
theorem um {P:Params} {h:Heap}:∀(ns:List Int) (vs:List Value),WellAll P h vs (ns.map WData.int)->IntsAre vs ns:=by
 intro ns
 induction ns with
 | nil=>
  intro vs w
  rw[List.map_nil] at w
  cases w
  exact .nil
 | cons n ns ih=>
  intro vs w
  rw[x_] at w
  cases w with
  | cons a b=>
   cases a
   exact .cons _ _ (ih _ b)
theorem Lp {l:OpenLaw} {n:Nat} (hn:l.most=some n) {P:Params} {h:Heap} {args:List WData} {vals:List Value}
  (hpre:l.row.toRowW.claim.pre args=true) (hwl:WellAll P h vals args) :
  ∃a vs ns,vals=[Value.ref a]/\args=[WData.list (ns.map WData.int)]/\h.get? a=some { cls:=.type "list",data:=.seq vs.toArray }/\IntsAre vs ns/\ns.length<=n:=by
 have hsh:WShape.hasAll [] args [.list .int]=true:=(pre_splitW hpre).1
 have hc:l.pre.holds [] { args:=args }=true:=(pre_splitW hpre).2
 obtain⟨d,r,rfl,h1,h2⟩:=hasAllW_cons hsh
 obtain rfl:=hasAllW_nil h2
 obtain⟨xs,rfl,h3⟩:=hasW_list h1
 obtain⟨ns,rfl⟩:=items_int h3
 have hlen:ns.length<=n:=by
  unfold OpenLaw.pre at hc
  have h4:(WTm.not (.lt (.lit (.int (n:Int))) (.len (.arg 0)))).holds [] { args:=[.list (ns.map .int)] }=true:=by
   have h4:=(holds_andW hc).1
   rw[hn] at h4
   exact h4
  have h5:=condW_of h4 (w_not (w_lt w_lit (w_len_list (w_arg rfl))))
  rw[bR] at h5
  refine Nat.le_of_not_lt fun q=>?_
  have q':(n:Int)<((ns.length:Nat):Int):=by omega
  first
   | (rw[gC q'] at h5; exact absurd h5 (by decide))
   | (simp at h5; omega)
 cases hwl with
 | cons w1 w2=>
  cases w2
  cases w1 with
  | list ho hall=>exact⟨_,_,ns,rfl,rfl,ho,um ns _ hall,hlen⟩
theorem Mh (l:OpenLaw) (args:List WData):l.row.toRowW.claim.post args (.bool true) args=true:=
 postW_of (r:=l.row.toRowW) (X:=(true==true))
  (show WShape.has [] (.bool true) .bool=true by first | rfl | decide | simp[WShape.has,WShape.arms,WShape.armsAll])
  (show(WTm.eq .res (.lit (.bool true))).value [] { args:=args,res:=some (.bool true),after:=args }=some (.bool (true==true)) from w_eq_bool (w_res rfl) w_lit) rfl
theorem Gy {l:OpenLaw} {n:Nat} {q:Program} {loose:List Str} {XP:(Str->Option Value)->Heap->Prop} {YP:World->Heap->Prop} {d:DefRec}
  (hn:l.most=some n) (hdf:d.params.defaults=[])
  (call:∀(w:World) (s₀ s₁:Shared) (mg mb:Str->Option Value) (fa:Addr) (o:Obj) (pm cd doc:Value) (a:Addr) (vs:List Value) (ns:List Int),
   Ground q loose [] XP w s₀ mg mb s₁.heap->YP w s₁.heap ->
   s₁.heap.get? fa=some o->o.data=.func (docDef d.name d.params d.body d.scope pm cd doc)->s₁.heap.CodeRec cd d.name->mg d.name=some (.ref fa) ->
   s₁.heap.get? a=some { cls:=.type "list",data:=.seq vs.toArray }->IntsAre vs ns->ns.length<=n->s₁.gens = #[] ->
   codeAny (model l.prog w) callerA (.call (.ref fa) ⟨[.ref a],[]⟩) (fun r s'=>r=.ok (.ret (.bool true))/\OldK s₁.heap s'.heap/\s'.os=s₁.os/\AllBare s'.gens) s₁) :
  WalkO q loose XP YP l.row.toRowW d [] (fun f vs=>PySem.call f vs):=by
 intro w s₀ s₁ mg mb G Y fa o pm cd doc dV kV ho hd hcd hD hmg hg args vals as hpre hlay hrd hwl hlo
 obtain rfl:dV=.none:=Dflts.none hD hdf
 obtain rfl:kV=.none:=Dflts.noKw hD
 obtain⟨a,vs,ns,rfl,rfl,hobj,hints,hlen⟩:=Lp hn hpre hwl
 refine enter_call (codeAny_mono (call w s₀ s₁ mg mb fa o pm cd doc a vs ns G Y ho (fd_plain hd) hcd hmg hobj hints hlen hg) fun r s' hq=>?_)
 obtain⟨rfl,h2,h3,h4⟩:=hq
 exact⟨.inl ⟨.bool true,.bool true,[],rfl,fun _=>rfl,.bool true,Mh l _,fun _=>⟨List.Pairwise.nil,fun _ hm=>(nomatch hm)⟩⟩,h2,h3,h4⟩
section
variable {prog:Program} {w:World} {A:Around} {E:Value->Shared->Prop} {s:Shared} {K:Frag}
def ledger (h:Heap) (L d:Addr):List (Addr×Obj):=(List.range h.objs.size).filterMap fun a=>if a=L\/a=d then none else(h.get? a).map fun o=>(a,o)
end
end Att
namespace L2
open PySem PySem.Spec PyProof.Rows
theorem yN:∀{vs:List Value} {ns:List Int},IntsAre vs ns->Vals (ns.map V.int) vs
 | _,_,.nil=>.nil
 | _,_,.cons n t h=>.cons ⟨t,rfl⟩ (yN h)
def Only (H:Hp):Prop:=∀b,H b=none\/∃o xs,H b=some (.Dn o (.lst xs))
theorem Rc {P:Program} {w:World} {K:PySem.W.Frag} {mg mb:Str->Option Value} {CX:K9} {k:Nat} {fa a:Addr} {fd:FuncData} {x:Str} {sp:Sp} {s₁:Shared} {vs:List Value} {ns:List Int}
  (KX:K.In s₁.heap) (hns:s₁.heap.Ns mainGlobals mg) (hb:s₁.heap.Ns builtinsNs mb) (hbb:∀x:Str,x ≠ "__name__" -> mb x=bootBuiltins x) (hlim:s₁.heap.NoLimit) (hg:s₁.gens = #[])
  (ha:s₁.heap.get? a=some { cls:=.type "list",data:=.seq vs.toArray }) (hi:IntsAre vs ns) (hl:ns.length<=sizeLine) (hr:ir k callerA)
  (F:∀base:Heap,K.In base->base.Ns mainGlobals mg->bQ P w K mg base CX k fa fd [x] sp) (hbind:∀(s:Shared) (u:Value),BindsTo s fd ⟨[u],[]⟩ [(x,u)])
  (hsp:∀H:Hp,Only H->dX K H a (ns.map V.int)->sp [.ref a] H (fun v _=>v=.bl true) fun _ _ _=>False)
  (hCX:∀H e s',CX [] H s₁ (fun _ _ _=>False) e s'->False) :
  codeAny (model P w) callerA (.call (.ref fa) ⟨[.ref a],[]⟩) (fun r s'=>r=.ok (.ret (.bool true))/\OldK s₁.heap s'.heap/\s'.os=s₁.os/\AllBare s'.gens) s₁:=by
 have rv:=yN hi
 have lenV:=hi.length
 have core:∀H:Hp,Only H->dX K H a (ns.map V.int)->lW P w H s₁.heap->(∀b,H b≠none->b=a)->(H a≠none->K.lookup a=none) ->
   codeAny (model P w) callerA (.call (.ref fa) ⟨[.ref a],[]⟩) (fun r s'=>r=.ok (.ret (.bool true))/\OldK s₁.heap s'.heap/\s'.os=s₁.os/\AllBare s'.gens) s₁:=by
  intro H hO hS hok hA hK
  have KZ:∀{b:Addr} {o:Obj},s₁.heap.get? b=some o->H b=none->(Cy s₁.heap H).get? b=some o:=fun e n=>Rq e n
  have noA:∀{b:Addr} {o:Obj} {es:Array DictEntry} {ep:Nat},s₁.heap.get? b=some o->o.data=.dict es ep->H b=none:=fun {b o es ep} e d=>by
   cases q:H b with
   | none=>rfl
   | some u=>
    have e':b=a:=hA b (by rw[q]; simp)
    subst e'
    rw[ha] at e; cases e
    have d':Data.seq vs.toArray _=Data.dict es ep:=d
    cases d'
  have nsK:∀{b:Addr} {m:Str->Option Value},s₁.heap.Ns b m->(Cy s₁.heap H).Ns b m:=fun {b m} ⟨o,es,ep,e,d,r⟩=>⟨o,es,ep,KZ e (noA e d),d,r⟩
  have hKb:K.In (Cy s₁.heap H):=fun b o e=>KZ (KX b o e) (by
   cases q:H b with
   | none=>rfl
   | some u=>
    have e':b=a:=hA b (by rw[q]; simp)
    subst e'
    rw[hK (by rw[q]; simp)] at e; cases e)
  have hM:Mod K mg (Cy s₁.heap H):=⟨hKb,nsK hns,⟨mb,nsK hb,hbb⟩,let ⟨mc,h1,h2⟩:=hlim; ⟨mc,nsK h1,h2⟩⟩
  have e0:Vu P w K mg (Cy s₁.heap H) callerA [] s₁ H:=⟨rfl,hM,fun b o e=>Up e,Nat.le_of_eq (Nj _ _),trivial,fun b hb=>absurd (show b∈([]:List Addr) from hb) (by simp),hok,.of_eq hg⟩
  refine codeAny_mono ((F _ hKb (nsK hns)).run callerA [] s₁ H ⟨[.ref a],[]⟩ [.ref a] [.ref a] _ _ hr e0 (hbind s₁ (.ref a)) (.cons rfl .nil) (hsp H hO hS)) fun r s' h=>?_
  cases r with
  | error e=>exact(hCX H e s' h).elim
  | ok fl=>
   cases fl with
   | next=>exact False.elim h
   | brk=>exact False.elim h
   | cont=>exact False.elim h
   | ret u=>
    obtain⟨v,H',os,bare,un,hok',r',q⟩:=h
    have q':v=.bl true:=q
    subst q'
    obtain rfl:u=Value.bool true:=r'
    refine⟨rfl,OldK.of_keep fun b o e=>?_,os,bare⟩
    cases q:H b with
    | none=>exact un.keep b o e q (by intro z; exact absurd (show b∈([]:List Addr) from z) (by simp)) (by simp)
    | some u=>
     rcases hO b with z | ⟨ob,xs,z⟩
     ·rw[q] at z; cases z
     ·have z2:=un.yq b ob _ z
      obtain⟨e1,_⟩:=hok b _ z
      obtain⟨e2,_⟩:=hok' b _ z2
      rw[e] at e1; cases e1
      exact e2
 cases hk:K.lookup a with
 | some o=>
  have e:=KX a o hk
  rw[ha] at e
  cases e
  refine core (fun _=>none) (fun _=>.inl rfl) (.inr ⟨_,vs.toArray,_,hk,rfl,rfl,rfl,by rw[fB,lenV]; exact hl,by simpa using rv⟩) (fun b u z=>by have z':(none:Option HO)=some u:=z; cases z') (fun b z=>absurd rfl z) fun z=>absurd rfl z
 | none=>
  refine core (fun b=>if b=a then some (.Dn { cls:=.type "list",data:=.seq vs.toArray } (.lst (ns.map V.int))) else none) (fun b=>?_) (.inl (.inr ⟨{ cls:=.type "list",data:=.seq vs.toArray },aL rfl⟩)) (fun b u z=>?_) (fun b z=>?_) fun _=>hk
  ·by_cases hb:b=a
   ·exact .inr ⟨_,_,aL hb⟩
   ·exact .inl (bB hb)
  ·by_cases hb:b=a
   ·have z':=(aL hb).symm.trans z
    cases z'
    subst hb
    exact⟨ha,by rw[bR]; exact hl,vs,_,rv,ha⟩
   ·have z':=(bB hb).symm.trans z
    cases z'
  ·by_cases hb:b=a
   ·exact hb
   ·exact absurd (bB hb) z
abbrev KOf {K:PySem.W.Frag} {h:Heap} (_:K.In h):PySem.W.Frag:=K
theorem S7 {l:PySem.W.OpenLaw} {n k:Nat} {q:Program} {loose:List Str} {XP:(Str->Option Value)->Heap->Prop} {YP:World->Heap->Prop} {d:DefRec} {K:Params->PySem.W.Frag} {CX:World->K9} {sp:World->Sp} {x:Str}
  (hn:l.most=some n) (hn2:n<=sizeLine) (hdf:d.params.defaults=[]) (hr:ir k callerA)
  (hY:∀(w:World) (h:Heap),YP w h->(K w.params).In h)
  (F:∀(w:World) (mg:Str->Option Value) (fa:Addr) (h:Heap),(K w.params).In h->h.Ns mainGlobals mg->mg d.name=some (.ref fa) ->
   ∃fd:FuncData,(∀(s:Shared) (u:Value),BindsTo s fd ⟨[u],[]⟩ [(x,u)]) /\
    ∀base:Heap,(K w.params).In base->base.Ns mainGlobals mg->bQ l.prog w (K w.params) mg base (CX w) k fa fd [x] (sp w))
  (hsp:∀(w:World) (H:Hp) (a:Addr) (ns:List Int),ns.length<=n->Only H->dX (K w.params) H a (ns.map V.int)->sp w [.ref a] H (fun v _=>v=.bl true) fun _ _ _=>False)
  (hCX:∀(w:World) (H:Hp) (s:Shared) (e:Value) (s':Shared),CX w [] H s (fun _ _ _=>False) e s'->False) :
  PySem.W.WalkO q loose XP YP l.row.toRowW d [] (fun f vs=>PySem.call f vs):=by
 refine Att.Gy hn hdf fun w s₀ s₁ mg mb fa o pm cd doc a vs ns G Y ho hd hcd hmg hobj hints hlen hg=>?_
 have KX:=hY w _ Y
 obtain⟨fd,hb,hF⟩:=F w mg fa _ KX G.T.g hmg
 exact Rc KX G.T.g G.T.b G.T.builtins G.T.nolimit hg hobj hints (oG hlen hn2) hr hF hb (fun H hO hS=>hsp w H a ns hlen hO hS) fun H e s'=>hCX w H s₁ e s'
end L2
namespace L2
open PySem PySem.Spec PyProof.Rows
def eN (s:Stmt):Arguments:=match s with
 | .FunctionDef _ a _ _ _ _ _ _ _ _=>a
 | _=>{ posonlyargs:=[],args:=[],vararg:=none,kwonlyargs:=[],kw_defaults:=[],kwarg:=none,defaults:=[] }
def dD (s:Stmt):List Stmt:=match s with
 | .FunctionDef _ _ b _ _ _ _ _ _ _=>b
 | _=>[]
def aH (s:Stmt):Scope:=match s with
 | .FunctionDef _ _ _ _ _ _ sc _ _ _=>sc
 | _=>{ kind:=.function,names:=[],isGenerator:=false,isCoroutine:=false }
abbrev iH:K9:=fun _ _ _ _ _ _=>False
abbrev E0:XK:=fun _ _ _=>False
theorem Wa {X:Cx}:Passes iH X E0:=fun _ _ _ _ _ _ _ h=>h.elim
structure iW (K:PySem.W.Frag) (x qual:Str) (st:Stmt) (f:Addr) (fd:FuncData):Prop where
 ex:∃(oc:Value) (od:Option Addr) (kV doc pm:Value) (an:Option Addr) (cdv ct:Value) (osl:Array (Option Value)),
  fd=PySem.W.fnOf x qual (eN st) (dD st) (aH st) .none kV doc pm an cdv ct/\K.lookup f=some ⟨oc,od,.func fd,osl⟩/\PySem.W.codeIn K cdv qual=true
 kp:PySem.W.keepIn K (.ref f)=true
section
variable {P:Program} {w:World} {K:PySem.W.Frag} {mg:Str->Option Value} {base:Heap}
theorem iW.ok {x qual:Str} {st:Stmt} {f:Addr} {fd:FuncData} {N ps:List Str} {k:Nat} {sp:Sp} (F:iW K x qual st f fd) (S:aV N ps (aH st)) (len:∀vs H Q E,sp vs H Q E->vs.length=ps.length)
  (hbody:∀(cdv:Value) (A:Around) (outer:List Env) (s:Shared) (H:Hp) (vs:List V) (Q:VK) (E:XK),ir k (A.deeper (envOfC qual (aH st) s.heap.objs.size f cdv))->sp vs H Q E ->
   ∃t,yI (gq iH P w K mg base N qual (aH st) f cdv A outer s H E).YG (dD st) t/\t { nx:=fun _ H'=>Q .non H',rt:=Q } (start N vs) H):bQ P w K mg base iH (k+1) f fd ps sp:=by
 obtain⟨oc,od,kV,doc,pm,an,cdv,ct,osl,rfl,lk,hcd⟩:=F.ex
 refine Wk lk hcd S len fun A outer s H vs Q E hr hsp=>?_
 obtain⟨t,h,q⟩:=hbody cdv A outer s H vs Q E hr hsp
 exact⟨t,h.YG,q⟩
theorem iW.binds {x qual:Str} {st:Stmt} {f:Addr} {fd:FuncData} {ps:List Str} (F:iW K x qual st f fd)
  (h:∀(kV doc pm:Value) (an:Option Addr) (cdv ct:Value) (us:List Value),us.length=ps.length->bindArgs (PySem.W.fnOf x qual (eN st) (dD st) (aH st) .none kV doc pm an cdv ct) ⟨us,[]⟩=pure (ps.zip us)):Binds K fd ps []:=by
 obtain⟨oc,od,kV,doc,pm,an,cdv,ct,osl,rfl,lk,hcd⟩:=F.ex
 exact .all (h kV doc pm an cdv ct)
theorem Rx {x qual:Str} {st:Stmt} {f:Addr} {oc:Value} {od an:Option Addr} {osl:Array (Option Value)} {kV doc pm cdv ct:Value} (l:K.lookup f=some ⟨oc,od,.func (PySem.W.fnOf x qual (eN st) (dD st) (aH st) .none kV doc pm an cdv ct),osl⟩)
  (c:PySem.W.codeIn K cdv qual=true) (k:PySem.W.keepIn K (.ref f)=true):iW K x qual st f (PySem.W.fnOf x qual (eN st) (dD st) (aH st) .none kV doc pm an cdv ct):=⟨⟨oc,od,kV,doc,pm,an,cdv,ct,osl,rfl,l,c⟩,k⟩
end
theorem bw {n:Nat} (h:n<=1000):n<sizeLine:=Nat.lt_of_le_of_lt h (by decide)
section
variable {X:Cx}
theorem pv (i:Nat) {x:Str} {pos:Pos} (hN:X.N[i]?=some x:=by rfl) (hv:Vis X.env.scope x:=by first | exact Or.inl rfl | exact Or.inr (Or.inl rfl) | exact Or.inr (Or.inr rfl)) (hd:(x==("__debug__" : Str))=false:=by decide)
  (hcd:(x==("__classdict__" : Str))=false:=by decide):PE X (.Name x pos) (rF i):=QG hN hv hd hcd
end
def aF (H H':Hp):Prop:=∀b o,H b=some o->H' b=some o
theorem aF.refl (H:Hp):aF H H:=fun _ _ h=>h
theorem aF.trans {H H1 H2:Hp} (a:aF H H1) (b:aF H1 H2):aF H H2:=fun c o h=>b c o (a c o h)
theorem aF.free {H H':Hp} (e:aF H H') {l:Addr} (h:H' l=Option.none):H l=Option.none:=by
 cases q:H l with
 | none=>rfl
 | some o=>
  rw[e l o q] at h
  cases h
section
variable {κ:Type} [DecidableEq κ]
end
section
variable {P:Program} {w:World} {H:Hp} {h:Heap} {a:Addr}
end
section
variable {X:Cx} {pins:List (Addr×Obj)} {σ:St} {H:Hp} {s:Shared} {a:Addr} {y v:V} {u r:Value} {o:Option V} {A:Around} {E:Value->Shared->Prop}
end
section
variable {X:Cx} {pins:List (Addr×Obj)} {σ:St} {H:Hp} {s:Shared} {a:Addr} {kvs:List (Key×V)} {k:Key} {u:Value} {A:Around} {E:Value->Shared->Prop}
end
section
variable {X:Cx} {o i e value:Expr} {pos pos' tpos:Pos} {td ty tv:TE}
end
section
variable {X:Cx} {pos:Pos}
end
structure M1 (X:Cx) (o:Expr) (m:Str) (apos:Pos) (e:Expr) (cpos:Pos):Prop where
 base:attributeBase o m X.env (eval o X.env)=eval o X.env
 few:((backTo cpos (starEach [e] X.env)).all (fun x=>!x.1)&&(backToKw cpos (keywordEach [] X.env)).all (fun x=>x.1.isSome)
  && decide (([e]:List Expr).length+([]:List Keyword).length+(if([]:List Keyword).isEmpty then 0 else 1)<30))=true
 line:(apos.endLine==cpos.line)=true
 trees:backTo cpos (starEach [e] X.env)=[(false,eval e X.env)]
structure M2 (X:Cx) (o:Expr) (m:Str) (apos:Pos) (e f:Expr) (cpos:Pos):Prop where
 base:attributeBase o m X.env (eval o X.env)=eval o X.env
 few:((backTo cpos (starEach [e,f] X.env)).all (fun x=>!x.1)&&(backToKw cpos (keywordEach [] X.env)).all (fun x=>x.1.isSome)
  && decide (([e,f]:List Expr).length+([]:List Keyword).length+(if([]:List Keyword).isEmpty then 0 else 1)<30))=true
 line:(apos.endLine==cpos.line)=true
 trees:backTo cpos (starEach [e,f] X.env)=[(false,eval e X.env),(false,eval f X.env)]
section
variable {X:Cx} {pins:List (Addr×Obj)} {σ:St} {H:Hp} {s:Shared} {a:Addr} {y d:V} {u r:Value} {o:Option V} {A:Around} {E:Value->Shared->Prop}
end
section
variable {X:Cx} {o e f:Expr} {apos cpos:Pos} {td ty tx:TE}
end
section
variable {X:Cx} {pins:List (Addr×Obj)} {σ:St} {H:Hp} {s:Shared} {a:Addr} {kvs:List (Key×V)} {A:Around} {E:Value->Shared->Prop}
end
section
variable {X:Cx} {pins:List (Addr×Obj)} {σ:St} {H:Hp} {s:Shared} {a:Addr} {y:V} {u:Value} {A:Around} {E:Value->Shared->Prop}
end
end L2
set_option maxHeartbeats 4000000
namespace L2
open PySem PySem.Spec PyProof.Rows
def jx (env:Env) (cs:List (Str×Addr)) (y:Str×NameKind):List (Str×Addr):=
 if y.2==.free then(match env.cells.lookup y.1 with | some c=>(y.1,c)::cs | none=>cs) else cs
def pM (sc:Scope) (env:Env):List (Str×Addr):=sc.names.foldl (jx env) []
theorem Gg {env:Env}:∀(ns:List (Str×NameKind)) (acc:List (Str×Addr)),(∀y c,acc.lookup y=some c->env.cells.lookup y=some c)->∀y c,(ns.foldl (jx env) acc).lookup y=some c->env.cells.lookup y=some c
 | [],acc,h,y,c,e=>h y c e
 | n::ns,acc,h,y,c,e=>by
  refine Gg ns (jx env acc n) (fun z d q=>?_) y c e
  unfold jx at q
  split at q
  ·split at q
   ·rename_i c' hc'
    rw[rT] at q
    split at q
    ·rename_i hz
     have hz':z=n.1:=by simpa using hz
     cases q
     rw[hz']; exact hc'
    ·exact h z d q
   ·exact h z d q
  ·exact h z d q
theorem ig {sc:Scope} {env:Env} {y:Str} {c:Addr} (e:(pM sc env).lookup y=some c):env.cells.lookup y=some c:=
 Gg sc.names [] (fun _ _ q=>by simp at q) y c e
theorem KR {env:Env} {y:Str} {c:Addr} (hc:env.cells.lookup y=some c):∀(ns:List (Str×NameKind)) (acc:List (Str×Addr)),acc.lookup y=some c->(ns.foldl (jx env) acc).lookup y=some c
 | [],acc,h=>h
 | n::ns,acc,h=>by
  refine KR hc ns (jx env acc n) ?_
  unfold jx
  split
  ·split
   ·rename_i c' hc'
    rw[rT]
    split
    ·rename_i hz
     have hz':y=n.1:=by simpa using hz
     rw[<- hz',hc] at hc'
     exact hc'.symm
    ·exact h
   ·exact h
  ·exact h
theorem Io {env:Env} {y:Str} {c:Addr} (hc:env.cells.lookup y=some c):∀(ns:List (Str×NameKind)) (acc:List (Str×Addr)),(y,NameKind.free)∈ns->(ns.foldl (jx env) acc).lookup y=some c
 | [],_,h=>by simp at h
 | n::ns,acc,h=>by
  rcases b7.mp h with e | h
  ·subst e
   refine KR hc ns _ ?_
   unfold jx
   simp[hc]
  ·exact Io hc ns _ h
theorem tQ {sc:Scope} {env:Env} {x:Str} {k':NameKind} (h:(relabel sc env).names.lookup x=some k'):∃k,(x,k)∈sc.names/\(k'=k\/(k=.free/\k'=.cell)):=by
 have m:=PySem.mem_of_lookup h
 unfold relabel at m
 obtain⟨⟨n,k⟩,hm,e⟩:=iK.mp m
 dsimp only at e
 split at e
 ·rename_i hc
  injection e with e1 e2
  subst e1
  refine⟨k,hm,.inr ⟨?_,e2.symm⟩⟩
  have:(k==NameKind.free)=true:=by
   cases hk:(k==NameKind.free) with
   | true=>rfl
   | false=>rw[hk] at hc; simp at hc
  exact beq_iff_eq.mp this
 ·injection e with e1 e2
  subst e1 e2
  exact⟨k,hm,.inl rfl⟩
theorem qt {env:Env} {x:Str} (hf:env.scope.kind=.function) (hk:env.kindOf x=some .cell):∀(ns:List (Str×NameKind)),ns.lookup x=some .free ->
  (ns.map fun(y:Str×NameKind)=>if(y.2==.free&&env.scope.kind==.function&&env.kindOf y.1==some .cell) then(y.1,NameKind.cell) else(y.1,y.2)).lookup x=some .cell
 | [],h=>by simp at h
 | (n,k)::r,h=>by
  have ih:=qt hf hk r
  rw[x_]
  cases hx:x==n with
  | true=>
   have e:x=n:=by simpa using hx
   subst e
   simp only[rT,beq_self_eq_true] at h
   cases h
   dsimp only
   rw[aL (by simp[hf,hk])]
   simp[rT]
  | false=>
   simp only[rT,hx] at h
   dsimp only
   split
   ·simp only[rT,hx]; exact ih h
   ·simp only[rT,hx]; exact ih h
def pK (X:Cx) (N':List Str) (sc:Scope) (fp:List Addr) (s:Shared) (H:Hp):Cx where
 prog:=X.prog
 w:=X.w
 K:=X.K
 mg:=X.mg
 base:=X.base
 A:=X.A
 N:=N'
 s₀:=s
 H₀:=H
 env:=compEnvC sc (pM sc X.env) s.heap.objs.size X.env
 outer:=X.stack
 stack:=X.stack
 ex:=fp
 fn:=fun _=>false
 calm:=X.calm
 pn:=[]
 xe:=fun _ _=>False
structure uO (X:Cx) (N':List Str) (js:List Nat) (sc:Scope):Prop where
 kind:sc.kind=.function
 h_:∀y∈sc.names,y.2≠.cell
 names:∀y∈sc.names,y.2=.local->sc.names.lookup y.1=some .local
 clos:closureFor sc X.env=pure (pM sc X.env)
 all:(sc.names.all fun y=>y.2 != .free || (X.env.cells.lookup y.1).isSome)=true
 len:N'.length=js.length+1
 cap:∀(i j:Nat),js[i]?=some j->N'[i+1]?=X.N[j]?
 RT:∀y∈N'.tail,X.env.kindOf y=some .cell/\sc.names.lookup y=some .free
def bW (js:List Nat) (σ:St):St:=js.map fun j=>(σ[j]?).join
def gK (js:List Nat) (wi:TI) (te:TE):TE:=fun σ H Q=>wi σ H fun J H1=>∀acc,H1 acc=none->∃W:Nat->Nat->List V->Hp->Prop,(∃m,W 0 m [] (upd H1 acc (.lst [])))/\∀i m ys H2,W i m ys H2 ->
 (J.stop i H2/\Q (.ref acc) H2)\/(J.go i H2/\∀x H3,J.xU i H2 x H3->te (some x::bW js σ) H3 fun y H4=>H4 acc=some (.lst ys)/\ys.length<sizeLine/\∃m',m'<m/\W (i+1) m' (ys++[y]) (upd H4 acc (.lst (ys++[y]))))
def M_:Key->PyData
 | .inl i=>.int i
 | .inr x=>.str x
mutual
def At (H:Hp):PyData->V->Prop
 | .none,v=>v=.non
 | .bool b,v=>v=.bl b
 | .int i,v=>v=.int i
 | .str x,v=>v=.str x
 | .tuple ds,v=>∃a xs,v=.ref a/\H a=some (.tup xs)/\ak H ds xs
 | .list ds,v=>∃a xs,v=.ref a/\H a=some (.lst xs)/\ak H ds xs
 | .dict kvs,v=>∃a es,v=.ref a/\H a=some (.dK es)/\Dm H kvs es
def ak (H:Hp):List PyData->List V->Prop
 | [],xs=>xs=[]
 | d::ds,xs=>∃x r,xs=x::r/\At H d x/\ak H ds r
def Dm (H:Hp):List (PyData×PyData)->List (Key×V)->Prop
 | [],es=>es=[]
 | (k,d)::r,es=>∃q v t,es=(q,v)::t/\k=M_ q/\At H d v/\Dm H r t
end
mutual
theorem At.mono {H H':Hp} (m:aF H H'):∀(d:PyData) (v:V),At H d v->At H' d v
 | .none,_,h=>by unfold At at h ⊢; exact h
 | .bool _,_,h=>by unfold At at h ⊢; exact h
 | .int _,_,h=>by unfold At at h ⊢; exact h
 | .str _,_,h=>by unfold At at h ⊢; exact h
 | .tuple ds,v,h=>by
  unfold At at h ⊢
  obtain⟨a,xs,e,h1,h2⟩:=h
  exact⟨a,xs,e,m _ _ h1,ak.mono m ds xs h2⟩
 | .list ds,v,h=>by
  unfold At at h ⊢
  obtain⟨a,xs,e,h1,h2⟩:=h
  exact⟨a,xs,e,m _ _ h1,ak.mono m ds xs h2⟩
 | .dict kvs,v,h=>by
  unfold At at h ⊢
  obtain⟨a,es,e,h1,h2⟩:=h
  exact⟨a,es,e,m _ _ h1,Dm.mono m kvs es h2⟩
theorem ak.mono {H H':Hp} (m:aF H H'):∀(ds:List PyData) (xs:List V),ak H ds xs->ak H' ds xs
 | [],_,h=>by unfold ak at h ⊢; exact h
 | d::ds,xs,h=>by
  unfold ak at h ⊢
  obtain⟨x,r,e,h1,h2⟩:=h
  exact⟨x,r,e,At.mono m d x h1,ak.mono m ds r h2⟩
theorem Dm.mono {H H':Hp} (m:aF H H'):∀(kvs:List (PyData×PyData)) (es:List (Key×V)),Dm H kvs es->Dm H' kvs es
 | [],_,h=>by unfold Dm at h ⊢; exact h
 | (k,d)::r,es,h=>by
  unfold Dm at h ⊢
  obtain⟨q,v,t,e,e',h1,h2⟩:=h
  exact⟨q,v,t,e,e',At.mono m d v h1,Dm.mono m r t h2⟩
end
theorem ak.length {H:Hp}:∀{ds:List PyData} {xs:List V},ak H ds xs->xs.length=ds.length
 | [],xs,h=>by unfold ak at h; rw[h]; rfl
 | d::ds,xs,h=>by
  unfold ak at h
  obtain⟨x,r,e,_,h2⟩:=h
  rw[e,jD,jD,ak.length h2]
theorem ak.get {H:Hp}:∀{ds:List PyData} {xs:List V} {i:Nat} {x:V},ak H ds xs->xs[i]?=some x->∃d,ds[i]?=some d/\At H d x
 | [],xs,i,x,h,e=>by unfold ak at h; rw[h] at e; simp at e
 | d::ds,xs,i,x,h,e=>by
  unfold ak at h
  obtain⟨y,r,e1,h1,h2⟩:=h
  subst e1
  cases i with
  | zero=>simp at e; subst e; exact⟨d,rfl,h1⟩
  | succ i=>
   obtain⟨d',q1,q2⟩:=ak.get (i:=i) (x:=x) h2 (by simpa using e)
   exact⟨d',by simpa using q1,q2⟩
theorem ak.getD {H:Hp}:∀{ds:List PyData} {xs:List V} {i:Nat} {d:PyData},ak H ds xs->ds[i]?=some d->∃x,xs[i]?=some x/\At H d x
 | [],xs,i,d,h,e=>by simp at e
 | d'::ds,xs,i,d,h,e=>by
  unfold ak at h
  obtain⟨y,r,e1,h1,h2⟩:=h
  subst e1
  cases i with
  | zero=>simp at e; subst e; exact⟨y,rfl,h1⟩
  | succ i=>
   obtain⟨x,q1,q2⟩:=ak.getD (i:=i) (d:=d) h2 (by simpa using e)
   exact⟨x,by simpa using q1,q2⟩
theorem ak.append {H:Hp}:∀{ds es:List PyData} {xs ys:List V},ak H ds xs->ak H es ys->ak H (ds++es) (xs++ys)
 | [],es,xs,ys,h,q=>by unfold ak at h; subst h; exact q
 | d::ds,es,xs,ys,h,q=>by
  unfold ak at h
  obtain⟨x,r,e,h1,h2⟩:=h
  subst e
  show ak H (d::(ds++es)) (x::(r++ys))
  unfold ak
  exact⟨x,r++ys,rfl,h1,ak.append h2 q⟩
theorem ak.take {H:Hp}:∀{ds:List PyData} {xs:List V} (n:Nat),ak H ds xs->ak H (ds.take n) (xs.take n)
 | ds,xs,0,h=>by simp[ak]
 | [],xs,n+1,h=>by unfold ak at h; subst h; simp[ak]
 | d::ds,xs,n+1,h=>by
  unfold ak at h
  obtain⟨x,r,e,h1,h2⟩:=h
  subst e
  show ak H (d::ds.take n) (x::r.take n)
  unfold ak
  exact⟨x,_,rfl,h1,ak.take n h2⟩
theorem ak.nil {H:Hp}:ak H [] []:=by unfold ak; rfl
theorem ak.cons {H:Hp} {d:PyData} {ds:List PyData} {x:V} {xs:List V} (h1:At H d x) (h2:ak H ds xs):ak H (d::ds) (x::xs):=by
 unfold ak; exact⟨x,xs,rfl,h1,h2⟩
theorem At.tup {H:Hp} {a:Addr} {xs:List V} {ds:List PyData} (h:H a=some (.tup xs)) (q:ak H ds xs):At H (.tuple ds) (.ref a):=by
 unfold At; exact⟨a,xs,rfl,h,q⟩
theorem At.lst {H:Hp} {a:Addr} {xs:List V} {ds:List PyData} (h:H a=some (.lst xs)) (q:ak H ds xs):At H (.list ds) (.ref a):=by
 unfold At; exact⟨a,xs,rfl,h,q⟩
theorem At.int {H:Hp} (i:Int):At H (.int i) (.int i):=by unfold At; rfl
theorem At.str {H:Hp} (x:Str):At H (.str x) (.str x):=by unfold At; rfl
theorem At.bool {H:Hp} (b:Bool):At H (.bool b) (.bl b):=by unfold At; rfl
theorem At.non {H:Hp}:At H .none .non:=by unfold At; rfl
theorem aK {H:Hp} {p:Addr} (h:H p=none) (o:HO):aF H (upd H p o):=fun b u q=>by rw[aP (bN q h)]; exact q
def Sd:PyData->String
 | .none=>"NoneType"
 | .bool _=>"bool"
 | .int _=>"int"
 | .str _=>"str"
 | .tuple _=>"tuple"
 | .list _=>"list"
 | .dict _=>"dict"
theorem At.ty {K:PySem.W.Frag} {H:Hp} {d:PyData} {v:V} (h:At H d v):q_ K H v (.type (Sd d)):=by
 cases d with
 | none=>unfold At at h; subst h; exact .non
 | bool b=>unfold At at h; subst h; exact .bl b
 | int i=>unfold At at h; subst h; exact .int i
 | str x=>unfold At at h; subst h; exact .str x
 | tuple ds=>unfold At at h; obtain⟨a,xs,e,h1,_⟩:=h; subst e; exact .tup h1
 | list ds=>unfold At at h; obtain⟨a,xs,e,h1,_⟩:=h; subst e; exact .lst h1
 | dict ds=>unfold At at h; obtain⟨a,xs,e,h1,_⟩:=h; subst e; exact .dK h1
def isInt:PyData->Bool
 | .int _=>true
 | .bool _=>true
 | _=>false
def isTup:PyData->Bool
 | .tuple _=>true
 | _=>false
def isBool:PyData->Bool
 | .bool _=>true
 | _=>false
def isStr:PyData->Bool
 | .str _=>true
 | _=>false
theorem U8 (K:PySem.W.Frag) (d:PyData):PySem.W.kitOne K (.type (Sd d)) (.type "int")=some (isInt d):=by cases d <;> kernel_rfl
theorem Ka (K:PySem.W.Frag) (d:PyData):PySem.W.kitOne K (.type (Sd d)) (.type "tuple")=some (isTup d):=by cases d <;> kernel_rfl
theorem Rf (K:PySem.W.Frag) (d:PyData):PySem.W.kitOne K (.type (Sd d)) (.type "bool")=some (isBool d):=by cases d <;> kernel_rfl
theorem U7 (K:PySem.W.Frag) (d:PyData):PySem.W.kitOne K (.type (Sd d)) (.type "str")=some (isStr d):=by cases d <;> kernel_rfl
section
variable {X:Cx}
def Hr (T:String) (f:PyData->Bool):List V->Hp->VK->Prop:=fun vs H Q=>∃v d,vs=[v,.ty T]/\At H d v/\Q (.bl (f d)) H
theorem wL {T:String} {f:PyData->Bool} (hf:∀K d,PySem.W.kitOne K (.type (Sd d)) (.type T)=some (f d)):cT X (.builtin "isinstance") (Hr T f):=by
 refine .mk ?_
 intro pins s σ H vs us Q I r h
 obtain⟨v,d,rfl,hv,q⟩:=h
 obtain⟨u,t,rfl,ru,rt⟩:=r.two
 cases(show t=Value.type T from rt)
 exact Nf I ru (hv.ty (K:=X.K)) (hf X.K d) fun tk=>⟨.bl (f d),H,I.tok tk,rfl,q⟩
theorem U_:cT X (.builtin "isinstance") (Hr "int" isInt):=wL U8
theorem Kh:cT X (.builtin "isinstance") (Hr "tuple" isTup):=wL Ka
theorem FQ:cT X (.builtin "isinstance") (Hr "bool" isBool):=wL Rf
theorem Cu:cT X (.builtin "isinstance") (Hr "str" isStr):=wL U7
theorem Bf:∀{bs:List Bool} {us:List Value},Vals (bs.map V.bl) us->us=bs.map Value.bool
 | [],_,.nil=>rfl
 | b::bs,_,.cons r t=>by
  cases(show _=Value.bool b from r)
  rw[Bf t]; rfl
theorem range_all (bs:List Bool):(List.range bs.length).all (fun i=>bs.getD i false)=bs.all id:=by
 rw[zy,ue,ue]
 constructor
 ·intro h b hb
  obtain⟨i,hi,rfl⟩:=List.mem_iff_getElem.mp hb
  have:=h i (rR.mpr hi)
  simpa[fJ,hi] using this
 ·intro h i hi
  have hi':=rR.mp hi
  have:=h bs[i] (BJ hi')
  simpa[fJ,hi'] using this
theorem range_any (bs:List Bool):(List.range bs.length).any (fun i=>bs.getD i false)=bs.any id:=by
 rw[zy,List.any_eq_true,List.any_eq_true]
 constructor
 ·rintro⟨i,hi,h⟩
  have hi':=rR.mp hi
  exact⟨bs[i],BJ hi',by simpa[fJ,hi'] using h⟩
 ·rintro⟨b,hb,h⟩
  obtain⟨i,hi,rfl⟩:=List.mem_iff_getElem.mp hb
  exact⟨i,rR.mpr hi,by simpa[fJ,hi] using h⟩
theorem NP (hc:X.calm=true):cT X (.builtin "all") (fun vs H Q=>∃(p:Addr) (bs:List Bool),vs=[.ref p]/\H p=some (.lst (bs.map V.bl))/\Q (.bl (bs.all id)) H):=by
 refine .mk ?_
 intro pins s σ H vs us Q I r h
 obtain⟨p,bs,rfl,hp,q⟩:=h
 obtain⟨u,rfl,ru⟩:=r.one
 cases ru
 obtain⟨z,its,n,rv,e⟩:=I.hok p _ hp
 have e2:=Bf rv
 subst e2
 have hl:s.heap.IsList p (bs.map Value.bool).toArray:=⟨_,e,rfl,n,rfl⟩
 have lt:p<s.heap.objs.size:=b_ e
 refine call_all_walk (Hu hl ?_)
 refine⟨_,_,_,_,_,_,fun i=>bs.getD i false,rfl,Walks.list (A:=X.A.in1) (I.ok.hd hc) _ p (fK lt) _,⟨⟨_,dM _ rfl,rfl,rfl⟩,hl.push _⟩,fun i v s' Q' E' hv hq=>?_,fun h' tk hk=>?_⟩
 ·have hv':(bs.map Value.bool).toArray[i]?=some v:=hv
  have:v=.bool (bs.getD i false):=by
   simp only[JK,gM] at hv'
   cases q:bs[i]? with
   | none=>rw[q] at hv'; simp at hv'
   | some b=>rw[q] at hv'; simp at hv'; simp[fJ,q,<- hv']
  rw[this]
  exact Eh hq
 ·have e3:(List.range (bs.map Value.bool).toArray.size).all (fun i=>bs.getD i false)=bs.all id:=by
   rw[fB,bR]; exact range_all bs
  refine⟨.bl (bs.all id),H,I.kept (t':=tk) (fun b o eb=>?_),by rw[<- e3]; rfl,q⟩
  exact hk b o (by simpa using fK (b_ eb)) (eO _ eb)
theorem NK (hc:X.calm=true):cT X (.builtin "any") (fun vs H Q=>∃(p:Addr) (bs:List Bool),vs=[.ref p]/\H p=some (.lst (bs.map V.bl))/\Q (.bl (bs.any id)) H):=by
 refine .mk ?_
 intro pins s σ H vs us Q I r h
 obtain⟨p,bs,rfl,hp,q⟩:=h
 obtain⟨u,rfl,ru⟩:=r.one
 cases ru
 obtain⟨z,its,n,rv,e⟩:=I.hok p _ hp
 have e2:=Bf rv
 subst e2
 have hl:s.heap.IsList p (bs.map Value.bool).toArray:=⟨_,e,rfl,n,rfl⟩
 have lt:p<s.heap.objs.size:=b_ e
 refine call_any_walk (Hu hl ?_)
 refine⟨_,_,_,_,_,_,fun i=>bs.getD i false,rfl,Walks.list (A:=X.A.in1) (I.ok.hd hc) _ p (fK lt) _,⟨⟨_,dM _ rfl,rfl,rfl⟩,hl.push _⟩,fun i v s' Q' E' hv hq=>?_,fun h' tk hk=>?_⟩
 ·have hv':(bs.map Value.bool).toArray[i]?=some v:=hv
  have:v=.bool (bs.getD i false):=by
   simp only[JK,gM] at hv'
   cases q:bs[i]? with
   | none=>rw[q] at hv'; simp at hv'
   | some b=>rw[q] at hv'; simp at hv'; simp[fJ,q,<- hv']
  rw[this]
  exact Eh hq
 ·have e3:(List.range (bs.map Value.bool).toArray.size).any (fun i=>bs.getD i false)=bs.any id:=by
   rw[fB,bR]; exact range_any bs
  refine⟨.bl (bs.any id),H,I.kept (t':=tk) (fun b o eb=>?_),by rw[<- e3]; rfl,q⟩
  exact hk b o (by simpa using fK (b_ eb)) (eO _ eb)
theorem Fe:∀(ns:List Int),preSum (fun i=>ns.getD i 0) ns.length=ns.sum:=by
 have key:∀(ns:List Int) (k:Nat),k<=ns.length->preSum (fun i=>ns.getD i 0) k=(ns.take k).sum:=by
  intro ns k
  induction k with
  | zero=>intro _; rfl
  | succ k ih=>
   intro hk
   have e:ns.take (k+1)=ns.take k++[ns.getD k 0]:=by
    rw[Bw,fM (by omega)]
    simp[fJ,fM (show k<ns.length by omega)]
   show preSum _ k+ns.getD k 0=_
   rw[ih (by omega),e,List.sum_append]
   simp
 intro ns
 rw[key ns ns.length (bF _),pC]
theorem Km {ns:List Int} {its:List Value} (r:Vals (ns.map V.int) its) {i:Nat} {v:Value} (h:its.toArray[i]?=some v):∃t,v=.int (ns.getD i 0) t:=by
 have h':its[i]?=some v:=by simpa using h
 have hi:i<its.length:=(iQ.mp h').1
 have hl:=r.length
 rw[bR] at hl
 obtain⟨u,hu,ru⟩:=r.get (i:=i) (x:=V.int (ns[i]'(by omega))) (by rw[gM,fM (by omega)]; rfl)
 rw[h'] at hu
 cases hu
 obtain⟨t,e⟩:=ru
 exact⟨t,by rw[e,fJ,fM (by omega)]; rfl⟩
theorem lg (hc:X.calm=true):cT X (.builtin "sum") (fun vs H Q=>∃(p:Addr) (ns:List Int),vs=[.ref p]/\(H p=some (.lst (ns.map V.int))\/H p=some (.tup (ns.map V.int)))/\Q (.int ns.sum) H):=by
 refine .mk ?_
 intro pins s σ H vs us Q I r h
 obtain⟨p,ns,rfl,hp,q⟩:=h
 obtain⟨u,rfl,ru⟩:=r.one
 cases ru
 have fin:∀{h':Heap} {tk:Nat} {t':Tok} {o:Obj},(∀b o',b∉[s.heap.objs.size]->(s.heap.push o).get? b=some o'->h'.get? b=some o')->EP X pins σ Q (.int (preSum (fun i=>ns.getD i 0) ns.length) t') { s with heap:=h',toks:=tk }:=fun {h' tk t' o} hk=>
  ⟨.int ns.sum,H,I.kept (t':=tk) (fun b o' eb=>hk b o' (by simpa using fK (b_ eb)) (eO _ eb)),⟨t',by rw[Fe]⟩,q⟩
 rcases hp with hp | hp
 ·obtain⟨z,its,n,rv,e⟩:=I.hok p _ hp
  have hl:s.heap.IsList p its.toArray:=⟨_,e,rfl,n,rfl⟩
  have lt:p<s.heap.objs.size:=b_ e
  have hlen:=rv.length
  rw[bR] at hlen
  refine call_sum_walkG (Hu hl ?_)
  refine⟨_,_,_,_,_,_,fun i=>ns.getD i 0,rfl,Walks.list (A:=X.A.in1) (I.ok.hd hc) _ p (fK lt) _,⟨⟨_,dM _ rfl,rfl,rfl⟩,hl.push _⟩,fun b hb=>?_,fun i v hv=>Km rv hv,fun h' tk t' hk=>?_⟩
  ·show b<(s.heap.push _).objs.size
   rw[jP]
   rcases b7.mp hb with rfl | hb
   ·exact Eu _
   ·rw[fU.mp hb]; exact zN lt
  ·rw[fB,<- hlen]; exact fin hk
 ·obtain⟨z,its,rv,ht⟩:=I.hok p _ hp
  have ht':s.heap.IsTuple p its.toArray:=ht
  have lt:p<s.heap.objs.size:=by obtain⟨o,e,_⟩:=ht; exact b_ e
  have hlen:=rv.length
  rw[bR] at hlen
  refine call_sum_walkG (Lx ht' ?_)
  refine⟨_,_,_,_,_,_,fun i=>ns.getD i 0,rfl,Walks.tuple (A:=X.A.in1) (I.ok.hd hc) _ p (fK lt) _,⟨⟨_,dM _ rfl,rfl,rfl⟩,?_⟩,fun b hb=>?_,fun i v hv=>Km rv hv,fun h' tk t' hk=>?_⟩
  ·obtain⟨o,e,c⟩:=ht'
   exact⟨o,eO _ e,c⟩
  ·show b<(s.heap.push _).objs.size
   rw[jP]
   rcases b7.mp hb with rfl | hb
   ·exact Eu _
   ·rw[fU.mp hb]; exact zN lt
  ·rw[fB,<- hlen]; exact fin hk
theorem lq:cT X (.type "int") (fun vs H Q=>∃(b:Bool),vs=[.bl b]/\Q (.int (if b then 1 else 0)) H):=by
 refine .mk ?_
 intro pins s σ H vs us Q I r h
 obtain⟨b,rfl,q⟩:=h
 obtain⟨u,rfl,ru⟩:=r.one
 cases(show u=Value.bool b from ru)
 exact call_int_bool ⟨.int (if b then 1 else 0),H,I.tok _,⟨_,rfl⟩,q⟩
end
mutual
theorem km {P:Program} {w:World} {H:Hp} {h:Heap} (ok:lW P w H h):∀(d:PyData) (v:V) (u:Value),At H d v->RelV v u->d.hasDict=false->∃as,Reads h u d as
 | .none,v,u,a,r,_=>by unfold At at a; subst a; cases r; exact⟨_,.none⟩
 | .bool b,v,u,a,r,_=>by unfold At at a; subst a; cases r; exact⟨_,.bool b⟩
 | .int i,v,u,a,r,_=>by unfold At at a; subst a; obtain⟨t,rfl⟩:=r; exact⟨_,.int i t⟩
 | .str x,v,u,a,r,_=>by unfold At at a; subst a; obtain⟨t,rfl⟩:=r; exact⟨_,.str x t⟩
 | .tuple ds,v,u,a,r,nd=>by
  unfold At at a
  obtain⟨p,xs,e,hp,ha⟩:=a
  subst e
  cases r
  obtain⟨_,its,rv,o,e1,e2,n,e3⟩:=ok p _ hp
  obtain⟨as,ra⟩:=rO ok ds xs its ha rv (by simpa[PyData.hasDict] using nd)
  exact⟨_,.tuple e1 e2 e3 (by simpa using ra)⟩
 | .list ds,v,u,a,r,nd=>by
  unfold At at a
  obtain⟨p,xs,e,hp,ha⟩:=a
  subst e
  cases r
  obtain⟨_,its,n,rv,e1⟩:=ok p _ hp
  obtain⟨as,ra⟩:=rO ok ds xs its ha rv (by simpa[PyData.hasDict] using nd)
  exact⟨_,.list e1 rfl rfl (by simpa using ra)⟩
 | .dict kvs,v,u,a,r,nd=>by simp[PyData.hasDict] at nd
theorem rO {P:Program} {w:World} {H:Hp} {h:Heap} (ok:lW P w H h):∀(ds:List PyData) (xs:List V) (us:List Value),ak H ds xs->Vals xs us->PyData.hasDictAll ds=false->∃as,ReadsAll h us ds as
 | [],xs,us,a,r,_=>by unfold ak at a; subst a; cases r; exact⟨_,.nil⟩
 | d::ds,xs,us,a,r,nd=>by
  unfold ak at a
  obtain⟨x,t,e,h1,h2⟩:=a
  subst e
  have nd':d.hasDict=false/\PyData.hasDictAll ds=false:=by simpa[PyData.hasDictAll] using nd
  cases r with
  | cons r1 r2=>
   obtain⟨as,q1⟩:=km ok d x _ h1 r1 nd'.1
   obtain⟨bs,q2⟩:=rO ok ds t _ h2 r2 nd'.2
   exact⟨_,.cons q1 q2⟩
end
structure aeZ (d:PyData):Prop where
 can:d.showable=true
 nod:d.hasDict=false
 len:d.shown.length<=sizeLine
 dep:d.depth<=60
section
variable {X:Cx}
def Gi (mg:Str->Option Value) (x:Str) (i:Int):Prop:=∃t,mg x=some (.int i t)
theorem Hz {x:Str} {i:Int} {pos:Pos} (h:Gi X.mg x i) (hg:Gl X x:=by rfl) (hd:(x==("__debug__" : Str))=false:=by decide):PE X (.Name x pos) (tC (.int i)):=by
 obtain⟨t,ht⟩:=h
 exact uz hg ht ⟨t,rfl⟩ hd
structure Ct (P:Program) (w:World) (K:PySem.W.Frag) (mg:Str->Option Value) (base:Heap) (k:Nat) (x:Str) (ps:List Str) (sp:Sp) where
 f:Addr
 fd:FuncData
 G:bQ P w K mg base iH k f fd ps sp
 kp:PySem.W.keepIn K (.ref f)=true
 b:Binds K fd ps []
 m:mg x=some (.ref f)
def Ct.mono {P:Program} {w:World} {K:PySem.W.Frag} {mg:Str->Option Value} {base:Heap} {j k:Nat} {x:Str} {ps:List Str} {sp:Sp} (c:Ct P w K mg base j x ps sp) (h:j<=k):Ct P w K mg base k x ps sp:={ c with G:=c.G.mono h }
theorem Z_ {k:Nat} {x:Str} {ps:List Str} {sp:Sp} {e:Expr} {es:List Expr} {t:TA} {p pos:Pos} (c:Ct X.prog X.w X.K X.mg X.base k x ps sp) (hr:ir k X.A) (ha:PA X (e::es) t) (hg:Gl X x:=by rfl)
  (hdb:(x==("__debug__" : Str))=false:=by decide) (he:starEach (e::es) X.env=(false,eval e X.env)::starEach es X.env:=by rfl) (hpl:(backTo pos (starEach es X.env)).any (·.1)=false:=by rfl) :
  PE X (.Call (.Name x p) (e::es) [] pos) (pW sp [] E0 t):=JV c.G hr hg c.m c.kp c.b .nil Wa ha hdb he hpl
end
theorem Tz {v:V} {σ:St} {H:Hp} {Q:VK}:rF 0 (some v::σ) H Q=Q v H:=rfl
theorem Tw {i:Nat} {o:Option V} {σ:St} {H:Hp} {Q:VK}:rF (i+1) (o::σ) H Q=rF i σ H Q:=rfl
theorem TV {v:V} {o:Option V} {σ:St}:(o::σ).set 0 (some v)=some v::σ:=rfl
theorem TQ {i:Nat} {v:V} {o:Option V} {σ:St}:(o::σ).set (i+1) (some v)=o::σ.set i (some v):=rfl
theorem Ql {t:TG} {u:R5} {v:V} {r:List V} {σ:St} {H:Hp} {Q:St->Hp->Prop}:iD t u (v::r) σ H Q=t v σ H fun σ' H'=>u r σ' H' Q:=rfl
theorem TY {σ:St} {H:Hp} {Q:St->Hp->Prop}:wW [] σ H Q=Q σ H:=rfl
theorem fW {b:Bool} {A B:Prop} (h1:b=true->A) (h2:b=false->B):if b=true then A else B:=by
 cases b
 ·rw[bB (by decide)]; exact h2 rfl
 ·rw[aL rfl]; exact h1 rfl
theorem Xh {i j:Int} {H:Hp} {Q:VK}:Z4 (.int i) (.int j) H Q=Q (.bl (decide (i=j))) H:=by
 unfold Z4 Lq; simp
theorem Xe {i j:Int} {H:Hp} {Q:VK}:Z3 (.int i) (.int j) H Q=Q (.bl (!decide (i=j))) H:=by
 unfold Z3 Lq; simp
theorem Xg {i j:Str} {H:Hp} {Q:VK}:Z4 (.str i) (.str j) H Q=Q (.bl (decide (i=j))) H:=by
 unfold Z4 Lq; simp
theorem Xd {i j:Str} {H:Hp} {Q:VK}:Z3 (.str i) (.str j) H Q=Q (.bl (!decide (i=j))) H:=by
 unfold Z3 Lq; simp
theorem T3 {i:Int} {P:Int->Prop}:(∃k,[V.int i]=[V.int k]/\P k)=P i:=by
 simp
theorem T4 {i:Bool} {P:Bool->Prop}:(∃k,[V.bl i]=[V.bl k]/\P k)=P i:=by
 simp
theorem Qm {i j:Int} {P:Int->Int->Prop}:(∃a b,[V.int i,V.int j]=[V.int a,V.int b]/\P a b)=P i j:=by
 refine propext ⟨?_,fun h=>⟨i,j,rfl,h⟩⟩
 rintro⟨a,b,e,h⟩
 cases e
 exact h
theorem TF {b:Bool} {P:Bool->Prop}:(∃k,V.bl b=V.bl k/\P k)=P b:=by
 simp
theorem Xf {i:Int} {P:Int->Prop}:(∃k,V.int i=V.int k/\P k)=P i:=by
 simp
theorem Z0 {i j:Int} {P:Int->Int->Prop}:(∃a b,V.int i=V.int a/\V.int j=V.int b/\P a b)=P i j:=by
 simp
theorem tY {α β:Type} {g:β->α->β} {f:α->β->Sem (ForInStep β)}:∀(l:List α) (c:β),(∀x∈l,∀c,f x c=pure (.yield (g c x)))->forIn l c f=(pure (l.foldl g c):Sem β)
 | [],c,_=>rfl
 | x::l,c,h=>by
  rw[zE,h x jl c,pure_bind]
  exact tY l (g c x) fun y hy=>h y (iM _ hy)
theorem jw {sc:Scope} {env:Env} (h:(sc.names.all fun y=>y.2 != .free || (env.cells.lookup y.1).isSome)=true):closureFor sc env=pure (pM sc env):=by
 unfold closureFor pM
 dsimp only
 rw[tY (g:=jx env) sc.names [] (fun y hy c=>?_)]
 ·rfl
 obtain⟨n,k⟩:=y
 have a:=ue.mp h _ hy
 dsimp only
 unfold jx
 dsimp only
 cases hk:(k==NameKind.free) with
 | false=>simp
 | true=>
  have hk':k=.free:=beq_iff_eq.mp hk
  subst hk'
  have a':(env.cells.lookup n).isSome=true:=by simpa using a
  obtain⟨c',hc'⟩:=Hv.mp a'
  simp[cellOf,hc']
theorem m7 {sc:Scope} (h:(sc.names.all fun y=>y.2 != .local || sc.names.lookup y.1==some .local)=true):∀y∈sc.names,y.2=.local->sc.names.lookup y.1=some .local:=fun y hy e=>by
 have a:=ue.mp h y hy
 rw[e] at a
 simpa using a
theorem uO.mk0 {X:Cx} {x:Str} {sc:Scope} (k:sc.kind=.function:=by rfl) (n:(sc.names.all fun y=>y.2 != .cell&&y.2 != .free)=true:=by decide +kernel) (l:(sc.names.all fun y=>y.2 != .local || sc.names.lookup y.1==some .local)=true:=by decide +kernel):uO X [x] [] sc:=by
 have n':∀y∈sc.names,y.2≠.cell/\y.2≠.free:=fun y hy=>by have:=ue.mp n y hy; simpa using this
 have al:(sc.names.all fun y=>y.2 != .free || (X.env.cells.lookup y.1).isSome)=true:=ue.mpr fun y hy=>by simp[(n' y hy).2]
 exact⟨k,fun y hy=>(n' y hy).1,m7 l,jw al,al,rfl,fun i j h=>by simp at h,fun y h=>by simp at h⟩
theorem uO.mk1 {X:Cx} {x y:Str} {sc:Scope} {j:Nat} (hj:X.N[j]?=some y:=by rfl) (k:sc.kind=.function:=by rfl) (n:(sc.names.all fun y=>y.2 != .cell)=true:=by decide +kernel)
  (l:(sc.names.all fun y=>y.2 != .local || sc.names.lookup y.1==some .local)=true:=by decide +kernel) (al:(sc.names.all fun y=>y.2 != .free || (X.env.cells.lookup y.1).isSome)=true:=by rfl)
  (k1:X.env.kindOf y=some .cell:=by rfl) (k2:sc.names.lookup y=some .free:=by rfl):uO X [x,y] [j] sc:=by
 have n':∀y∈sc.names,y.2≠.cell:=fun y hy=>by have:=ue.mp n y hy; simpa using this
 refine⟨k,n',m7 l,jw al,al,rfl,fun i j' h=>?_,fun z h=>?_⟩
 ·cases i with
  | zero=>simp at h; subst h; exact hj.symm
  | succ i=>simp at h
 ·have e:z=y:=by simpa using h
  subst e; exact⟨k1,k2⟩
theorem uO.mk2 {X:Cx} {x y z:Str} {sc:Scope} {j j2:Nat} (hj:X.N[j]?=some y:=by rfl) (hj2:X.N[j2]?=some z:=by rfl) (k:sc.kind=.function:=by rfl) (n:(sc.names.all fun y=>y.2 != .cell)=true:=by decide +kernel)
  (l:(sc.names.all fun y=>y.2 != .local || sc.names.lookup y.1==some .local)=true:=by decide +kernel) (al:(sc.names.all fun y=>y.2 != .free || (X.env.cells.lookup y.1).isSome)=true:=by rfl)
  (k1:X.env.kindOf y=some .cell:=by rfl) (k2:sc.names.lookup y=some .free:=by rfl) (k3:X.env.kindOf z=some .cell:=by rfl) (k4:sc.names.lookup z=some .free:=by rfl):uO X [x,y,z] [j,j2] sc:=by
 have n':∀y∈sc.names,y.2≠.cell:=fun y hy=>by have:=ue.mp n y hy; simpa using this
 refine⟨k,n',m7 l,jw al,al,rfl,fun i j' h=>?_,fun v h=>?_⟩
 ·match i,h with
  | 0,h=>simp at h; subst h; exact hj.symm
  | 1,h=>simp at h; subst h; exact hj2.symm
  | i+2,h=>simp at h
 ·have e:v=y\/v=z:=by simpa using h
  rcases e with e | e
  ·subst e; exact⟨k1,k2⟩
  ·subst e; exact⟨k3,k4⟩
def cC:Expr->Bool
 | .Starred _ _=>false
 | _=>true
theorem cR {env:Env} {e:Expr} {es:List Expr} (h:cC e=true):starEach (e::es) env=(false,eval e env)::starEach es env:=by
 cases e <;> first | rfl | exact absurd h (by simp[cC])
theorem cL {env:Env} {pos:Pos}:∀{es:List Expr},es.all cC=true->(backTo pos (starEach es env)).any (·.1)=false
 | [],_=>rfl
 | e::es,h=>by
  have h':cC e=true/\es.all cC=true:=by simpa using h
  rw[cR h'.1]
  show(false || (backTo pos (starEach es env)).any (·.1))=false
  rw[cL h'.2]; rfl
section
variable {X:Cx} {x:Str} {p pos:Pos} {e:Expr} {es:List Expr} {te:TE} {t:TA} {id T:String} {r:List V->Hp->VK->Prop}
theorem aa (ha:PE X e te) (hr:PA X es t) (h:cC e=true:=by rfl):PA X (e::es) (Jd te t):=Uh ha hr (cR h)
theorem pf {k:Nat} {ps:List Str} {sp:Sp} (c:Ct X.prog X.w X.K X.mg X.base k x ps sp) (hr:ir k X.A) (ha:PA X (e::es) t) (hg:Gl X x:=by rfl) (hdb:(x==("__debug__" : Str))=false:=by decide) (h1:cC e=true:=by rfl) (h2:es.all cC=true:=by rfl) :
  PE X (.Call (.Name x p) (e::es) [] pos) (pW sp [] E0 t):=Z_ c hr ha hg hdb (cR h1) (cL h2)
theorem pb (hc:cT X (.builtin id) r) (hm:X.mg x=none) (hv:bootBuiltins x=some (.builtin id)) (ha:PA X (e::es) t) (hg:Gl X x:=by rfl) (hn:x ≠ "__name__" := by decide) (hdb:(x==("__debug__" : Str))=false:=by decide)
  (h1:cC e=true:=by rfl) (h2:es.all cC=true:=by rfl):PE X (.Call (.Name x p) (e::es) [] pos) (WY r t):=QK hc hg hm hv ha hn hdb (cR h1) (cL h2)
theorem pt (hc:cT X (.type T) r) (hm:X.mg x=none) (hv:bootBuiltins x=some (.type T)) (ha:PA X (e::es) t) (hg:Gl X x:=by rfl) (hn:x ≠ "__name__" := by decide) (hdb:(x==("__debug__" : Str))=false:=by decide)
  (h1:cC e=true:=by rfl) (h2:es.all cC=true:=by rfl):PE X (.Call (.Name x p) (e::es) [] pos) (WY r t):=Mi hc hg hm hv ha hn hdb (cR h1) (cL h2)
end
end L2
namespace HT
open PySem PyProof.Rows
section
variable {prog:Program} {w:World} {A:Around} {E:Value->Shared->Prop} {s:Shared}
theorem qN {t sl:Addr} {items:Array Value} {vl vu:Value} {lo hi:Option Int} {Q:Value->Shared->Prop} (ht:IsTup s.heap t items) (hs:s.heap.IsSliceOf sl vl vu .none) (pl:IsPart vl lo) (pu:IsPart vu hi)
  (hw1:fO items.size 0 lo=0) (hw2:fO items.size items.size hi=items.size) (h:Q (.ref t) s):wpAny (model prog w) A (getItem (.ref t) (.ref sl)) Q E s:=by
 obtain⟨os,hos,hcs,hds⟩:=id hs
 have tyS:s.TypeIs (.ref sl) "slice" := ⟨os,hos,hcs⟩
 unfold getItem
 try with_reducible refine rQ ?_
 first | refine aQ (bU ?_) | skip
 refine aQ (wpAny_sequenceKey ht.typeIs (by decide) ?_)
 refine aQ (Ma (name:=Str.ofString "__getitem__") ht.typeIs PyProof.Rows.slot_tuple_getitem (vK PyProof.Rows.slot_tuple_getitem ht.typeIs entry_tuple_getitem ?_ (args_tuple_getitem _ _)))
 show wpAny _ _ (Builtin.Tuple.tupleItemsOf (.ref t) >>= _) _ _ s
 refine aQ (tupleItemsOf_ ht ?_)
 refine aQ (wpAny_typeOf tyS ?_)
 rw[aL (by decide)]
 refine aQ (j_ hs pl pu ?_)
 have yes:(((fO items.size 0 lo:Nat):Int)==0&&(1:Int)==1&&(fO items.size items.size hi-fO items.size 0 lo)==items.size)=true:=by
  rw[hw1,hw2]; simp
 show wpAny _ _ (if(((fO items.size 0 lo:Nat):Int)==0&&(1:Int)==1&&(fO items.size items.size hi-fO items.size 0 lo)==items.size)=true then _ else _) _ _ s
 rw[aL yes]
 have ex:∀{R:Bool->Shared->Prop},R true s->wpAny (model prog w) A.in1 (Builtin.Tuple.tupleIsExact (.ref t)) R E s:=fun {R} q=>by
  unfold Builtin.Tuple.tupleIsExact
  refine aQ (wpAny_typeOf ht.typeIs (bU ?_))
  rw[beq_self_eq_true]
  exact q
 refine aQ (ex ?_)
 rw[aL rfl]
 exact aQ (qw (bU ⟨_,rfl,bU h⟩))
end
end HT
namespace L2
open PySem PySem.Spec PyProof.Rows
theorem bZ:bootBuiltins "isinstance" = some (.builtin "isinstance"):=by decide +kernel
theorem jy:bootBuiltins "len" = some (.builtin "len"):=by decide +kernel
theorem Yn:bootBuiltins "all" = some (.builtin "all"):=by decide +kernel
theorem Ym:bootBuiltins "any" = some (.builtin "any"):=by decide +kernel
theorem xN:bootBuiltins "sum" = some (.builtin "sum"):=by decide +kernel
theorem R1:bootBuiltins "abs" = some (.builtin "abs"):=by decide +kernel
theorem il:bootBuiltins "min" = some (.builtin "min"):=by decide +kernel
theorem iT:bootBuiltins "max" = some (.builtin "max"):=by decide +kernel
theorem tE:bootBuiltins "int" = some (.type "int"):=by decide +kernel
theorem IV:bootBuiltins "str" = some (.type "str"):=by decide +kernel
theorem KY:bootBuiltins "bool" = some (.type "bool"):=by decide +kernel
theorem jd:bootBuiltins "list" = some (.type "list"):=by decide +kernel
theorem cH:bootBuiltins "tuple" = some (.type "tuple"):=by decide +kernel
theorem Gu:bootBuiltins "range" = some (.type "range"):=by decide +kernel
theorem qU:bootBuiltins "enumerate" = some (.type "enumerate"):=by decide +kernel
theorem R0:bootBuiltins "zip" = some (.type "zip"):=by decide +kernel
section
variable {X:Cx}
theorem pty {x:Str} {T:String} {pos:Pos} (hg:Gl X x) (hm:X.mg x=none) (hv:bootBuiltins x=some (.type T)) (hn:x ≠ "__name__" := by decide) (hd:(x==("__debug__" : Str))=false:=by decide):PE X (.Name x pos) (tC (.ty T)):=
 Ue (v:=.ty T) hg hm hv rfl hn hd
theorem GD.of {T:String} {g:PyData->Bool} {v:V} {d:PyData} {H:Hp} {Q:VK} (h:At H d v) (q:Q (.bl (g d)) H):Hr T g [v,.ty T] H Q:=⟨v,d,rfl,h,q⟩
def abX (K:PySem.W.Frag):List V->Hp->VK->Prop:=fun vs H Q=>∃(p:Addr) (ys:List V),vs=[.ref p]/\(dX K H p ys\/cG K H p ys)/\Q (.int ys.length) H
theorem dW {K:PySem.W.Frag} (hK:X.K=K):cT X (.builtin "len") (abX K):=by
 subst hK
 exact Dc
def abU:V->Option Int->Option Int->Hp->VK->Prop:=fun x lo hi H Q=>∃(a:Addr) (xs:List V),x=.ref a/\H a=some (.tup xs)/\∀p H',aF H H'->H' p=some (.tup (mj xs lo hi))->Q (.ref p) H'
theorem iu:Ys X abU:=by
 refine .mk ?_
 intro pins s σ H x v vl vu lo hi sl Q I rx hs pl pu h
 obtain⟨a,xs,e,hx,q⟩:=h
 by_cases hw:HT.fO xs.length 0 lo=0/\HT.fO xs.length xs.length hi=xs.length
 ·subst e
  cases rx
  obtain⟨its,r,ht,hz⟩:=I.tuple (cG.of (K:=X.K) hx)
  have hlen:its.toArray.size=xs.length:=by rw[fB]; exact r.length.symm
  refine⟨"tuple",_,PyProof.Rows.slot_tuple_getitem.lookup,ht.typeIs,?_⟩
  refine HT.qN ht hs pl pu (by rw[hlen]; exact hw.1) (by rw[hlen]; exact hw.2) ⟨.ref a,H,I,rfl,q a H (aF.refl H) ?_⟩
  rw[hx]
  unfold mj
  rw[hw.1,hw.2,List.drop_zero,Nat.sub_zero,pC]
 ·exact W8 pins s σ H x v vl vu lo hi sl Q I rx hs pl pu ⟨a,xs,e,cG.of hx,hw,fun p hp=>q p _ (aK hp _) az⟩
def Z5:R2:=fun x y H Q=>∃(a b:Addr) (xs ys:List V),x=.ref a/\y=.ref b/\H a=some (.tup xs)/\H b=some (.tup ys)/\xs.length+ys.length<=sizeLine/\∀p H',aF H H'->H' p=some (.tup (xs++ys))->Q (.ref p) H'
theorem uA:rm X (binaryOp .Add) Z5:=by
 refine .mk ?_
 intro pins s σ H x y v u Q I rx ry h
 obtain⟨a,b,xs,ys,e1,e2,ha,hb,hz,q⟩:=h
 by_cases hx:xs=[]
 ·subst hx e1 e2
  cases rx
  cases ry
  obtain⟨its,r1,p1,_⟩:=I.tuple (cG.of (K:=X.K) ha)
  obtain⟨its2,r2,p2,_⟩:=I.tuple (cG.of (K:=X.K) hb)
  cases r1
  obtain⟨⟨cls,dd,data,sl⟩,ho,hc,n,hd⟩:=id p1
  obtain⟨⟨cls2,dd2,data2,sl2⟩,ho2,hc2,n2,hd2⟩:=id p2
  simp only at hc hd hc2 hd2
  subst hc hd hc2 hd2
  exact concat_meets ⟨_,ho,rfl⟩ ⟨_,ho2,rfl⟩ noFill_tuple_add seq_tuple_add PySem.F.slot_tuple_add PySem.F.entry_tuple_add (PySem.F.args_tuple_add_2 _ _) (tuple_addW0 a b _ _ n n2 dd dd2 sl sl2 (by rfl)) ⟨ho,ho2,⟨.ref b,H,I,rfl,q b H (aF.refl H) hb⟩⟩
 ·refine Uk pins s σ H x y v u Q I rx ry ⟨a,b,xs,ys,e1,e2,cG.of ha,cG.of hb,hx,hz,fun z=>?_,fun _ p hp=>q p _ (aK hp _) az⟩
  subst z
  exact q a H (aF.refl H) (by rw[ha,lZ])
def Ec:R2:=fun x y H Q=>∃(p:Addr) (xs:List V) (i:Int) (v:V),x=.ref p/\y=.int i/\(H p=some (.lst xs)\/H p=some (.tup xs))/\Dq xs i=some v/\Q v H
theorem aO:Sv X Ec:=by
 have h:=(Kd (X:=X)).or X7
 refine .mk ?_
 intro a b pins s σ H x y v u Q I rx ry q
 obtain⟨p,xs,i,z,e1,e2,hp,ha,q⟩:=q
 intro hs
 refine h a b pins s σ H x y v u Q I rx ry ?_ hs
 rcases hp with hp | hp
 ·exact .inl ⟨p,xs,i,z,e1,e2,dX.of hp,ha,q⟩
 ·exact .inr ⟨p,xs,i,z,e1,e2,cG.of hp,ha,q⟩
theorem Ix.tup {a:Addr} {xs:List V} {i:Int} {v:V} {H:Hp} {Q:VK} (h:H a=some (.tup xs)) (e:Dq xs i=some v) (q:Q v H):Ec (.ref a) (.int i) H Q:=⟨a,xs,i,v,rfl,rfl,.inr h,e,q⟩
theorem Ix.lst {a:Addr} {xs:List V} {i:Int} {v:V} {H:Hp} {Q:VK} (h:H a=some (.lst xs)) (e:Dq xs i=some v) (q:Q v H):Ec (.ref a) (.int i) H Q:=⟨a,xs,i,v,rfl,rfl,.inl h,e,q⟩
theorem RL {js:List Nat} {ta:TA} {te:TE} {σ:St} {H:Hp} {Q:VK} {n:Nat} (hl:∀R:List V->Hp->Prop,R [.int n] H->ta σ H R) (hn:n<=1000000)
  (h:∀acc,H acc=none->∃Pv:Nat->List V->Hp->Prop,Pv 0 [] (upd H acc (.lst [])) /\
   (∀i ys H',i<n->Pv i ys H'->te (some (.int (0+(i:Nat)))::bW js σ) H' fun y cZ=>cZ acc=some (.lst ys)/\ys.length<sizeLine/\Pv (i+1) (ys++[y]) (upd cZ acc (.lst (ys++[y])))) /\
   ∀ys H',Pv n ys H'->Q (.ref acc) H'):gK js (Aa ta) te σ H Q:=by
 refine hl _ ⟨n,rfl,by omega,by omega,fun acc hacc=>?_⟩
 obtain⟨Pv,h0,hs,hd⟩:=h acc hacc
 have en:((n:Int)).toNat=n:=rW n
 rw[en]
 refine⟨fun i m ys H'=>m=n-i/\i<=n/\Pv i ys H',⟨n,rfl,fQ _,h0⟩,?_⟩
 rintro i m ys H2 ⟨rfl,hi,p⟩
 by_cases hlt:i<n
 ·refine .inr ⟨hlt,fun x H3 y=>?_⟩
  obtain⟨e,y⟩:=y
  subst e y
  have Vy:=hs i ys _ hlt p
  have fe:(fun(y:V) (cZ:Hp)=>cZ acc=some (.lst ys)/\ys.length<sizeLine/\Pv (i+1) (ys++[y]) (upd cZ acc (.lst (ys++[y]))))=fun y H4=>H4 acc=some (.lst ys)/\ys.length<sizeLine/\∃m',m'<n-i/\(m'=n-(i+1)/\i+1<=n/\Pv (i+1) (ys++[y]) (upd H4 acc (.lst (ys++[y])))):=by
   funext y cZ
   refine propext ⟨fun⟨a,b,c⟩=>⟨a,b,_,by omega,rfl,hlt,c⟩,fun⟨a,b,m',_,_,_,c⟩=>⟨a,b,c⟩⟩
  rw[fe] at Vy
  exact Vy
 ·have e:i=n:=by omega
  subst e
  exact .inl ⟨bF _,hd ys _ p⟩
theorem cM:cT X (.type "tuple") (fun vs H Q=>∃(p:Addr) (ys:List V),vs=[.ref p]/\H p=some (.lst ys)/\∀l,H l=none->Q (.ref l) (upd H l (.tup ys))):=by
 refine .mk ?_
 intro pins s σ H vs us Q I r h
 obtain⟨p,ys,e,hp,q⟩:=h
 exact yr pins s σ H vs us Q I r ⟨p,ys,e,.inl ⟨dX.of hp,q⟩⟩
theorem sW:cT X (.type "list") (fun vs H Q=>∃(p:Addr) (ys:List V),vs=[.ref p]/\H p=some (.tup ys)/\∀l,H l=none->Q (.ref l) (upd H l (.lst ys))):=by
 refine .mk ?_
 intro pins s σ H vs us Q I r h
 obtain⟨p,ys,e,hp,q⟩:=h
 exact qP pins s σ H vs us Q I r ⟨p,ys,e,.inr (cG.of hp),q⟩
theorem Gb {ta:TA} {g:TG} {tb:TS} {D:Ends} {σ:St} {H:Hp} {n:Nat} (hl:∀R:List V->Hp->Prop,R [.int n] H->ta σ H R) (hn:n<=1000000) (Pv:Nat->St->Hp->Prop) (h0:Pv 0 σ H)
  (hs:∀i σ H,i<n->Pv i σ H->g (.int (0+(i:Nat))) σ H fun σ2 H2=>tb { D with nx:=Pv (i+1),ct:=Pv (i+1),bk:=D.nx } σ2 H2) (hd:∀σ H,Pv n σ H->D.nx σ H):Dw (Aa ta) g tb D σ H:=by
 refine hl _ ⟨n,rfl,by omega,by omega,?_⟩
 rw[rW]
 exact Af Pv h0 hs hd
def VJ (t:TA):TE:=fun σ H Q=>t σ H fun xs H1=>xs.length<=sizeLine/\∀p H',H1 p=none->aF H1 H'->H' p=some (.lst xs)->Q (.ref p) H'
def O8 (t:TA):TE:=fun σ H Q=>t σ H fun xs H1=>xs.length<=sizeLine/\∀p H',H1 p=none->aF H1 H'->H' p=some (.tup xs)->Q (.ref p) H'
theorem b8 {es:List Expr} {t:TA} {pos:Pos} (h:PA X es t):PE X (.List es pos) (VJ t):=by
 refine .mk ?_
 intro pins s σ H Q I hq
 refine wpAny_List_spliced (cQ (h pos pins s σ H _ I hq) fun us s1 ⟨xs,H1,I1,r,z,q⟩=>⟨by rw[<- r.length]; exact z,?_⟩)
 have fr:H1 s1.heap.objs.size=none:=I1.hok.fresh (bF _)
 exact⟨.ref s1.heap.objs.size,upd H1 s1.heap.objs.size (.lst xs),I1.laid (t':=s1.toks) (fun b u e=>eO _ e) (bF _) ⟨z,us,0,r,dM _ rfl⟩,rfl,q _ _ fr (aK fr _) az⟩
theorem bj {es:List Expr} {t:TA} {x1} {pos:Pos} (h:PA X es t):PE X (.Tuple es x1 pos) (O8 t):=by
 refine .mk ?_
 intro pins s σ H Q I hq
 refine wpAny_Tuple_spliced (cQ (h pos pins s σ H _ I hq) fun us s1 ⟨xs,H1,I1,r,z,q⟩=>⟨by rw[<- r.length]; exact z,?_⟩)
 have fr:H1 s1.heap.objs.size=none:=I1.hok.fresh (bF _)
 exact⟨.ref s1.heap.objs.size,upd H1 s1.heap.objs.size (.tup xs),I1.laid (t':=s1.toks) (fun b u e=>eO _ e) (bF _) ⟨z,us,r,⟨_,dM _ rfl,rfl,_,rfl⟩⟩,rfl,q _ _ fr (aK fr _) az⟩
def hid (a:Addr) (H:Hp):Hp:=fun b=>if b=a then none else H b
theorem bV {a b:Addr} {H:Hp} (h:b≠a):hid a H b=H b:=bB h
theorem nq {a:Addr} {H:Hp}:hid a H a=none:=aL rfl
theorem nj {a b:Addr} {H:Hp} {o:HO} (h:hid a H b=some o):b≠a/\H b=some o:=by
 by_cases e:b=a
 ·subst e; rw[nq] at h; cases h
 ·exact⟨e,by rw[bV e] at h; exact h⟩
theorem gF {a:Addr} {H:Hp} {o:HO}:hid a (upd H a o)=hid a H:=by
 funext b
 by_cases e:b=a
 ·subst e; rw[nq,nq]
 ·rw[bV e,bV e,aP e]
theorem dH {a p:Addr} {H:Hp} {o:HO} (h:p≠a):hid a (upd H p o)=upd (hid a H) p o:=by
 funext b
 by_cases e:b=a
 ·subst e; rw[nq,aP (Ne.symm h),nq]
 ·rw[bV e]
  by_cases e':b=p
  ·subst e'; rw[az,az]
  ·rw[aP e',aP e',bV e]
theorem cX {a:Addr} {H:Hp}:aF (hid a H) H:=fun b o h=>(nj h).2
def SX (a:Addr) (H H':Hp):Prop:=aF (hid a H) (hid a H')
theorem SX.refl (a:Addr) (H:Hp):SX a H H:=aF.refl _
theorem SX.trans {a:Addr} {H H1 H2:Hp} (x:SX a H H1) (y:SX a H1 H2):SX a H H2:=aF.trans x y
theorem SX.of {a:Addr} {H H':Hp} (s:aF H H'):SX a H H':=fun b o h=>by
 obtain⟨n,e⟩:=nj h
 rw[bV n]; exact s _ _ e
theorem SX.upd {a:Addr} {H:Hp} {o:HO}:SX a H (upd H a o):=by unfold SX; rw[gF]; exact aF.refl _
theorem SX.get {a b:Addr} {H H':Hp} {o:HO} (s:SX a H H') (n:b≠a) (h:H b=some o):H' b=some o:=by
 have:=s b o (by rw[bV n]; exact h)
 exact(nj this).2
def Tp (H:Hp) (a:Addr) (n:Nat):Prop:=∃x y z:Int,H a=some (.lst [.int x,.int y,.int z])/\0<=x/\0<=y/\y<4611686018427387904/\0<=z/\z<=n
theorem Tp.mono {H:Hp} {a:Addr} {n m:Nat} (h:Tp H a n) (l:n<=m):Tp H a m:=by
 obtain⟨x,y,z,e,h1,h2,h3,h4,h5⟩:=h
 exact⟨x,y,z,e,h1,h2,h3,h4,by omega⟩
theorem Tp.same {H H':Hp} {a:Addr} {n:Nat} (h:Tp H a n) (s:aF H H'):Tp H' a n:=by
 obtain⟨x,y,z,e,r⟩:=h
 exact⟨x,y,z,s _ _ e,r⟩
theorem Tp.ne {H:Hp} {a b:Addr} {n:Nat} (h:Tp H a n) (e:H b=none):b≠a:=by
 obtain⟨x,y,z,q,_⟩:=h
 intro z; subst z; rw[e] at q; cases q
theorem Tp.neT {H:Hp} {a b:Addr} {n:Nat} {xs:List V} (h:Tp H a n) (e:H b=some (.tup xs)):b≠a:=by
 obtain⟨x,y,z,q,_⟩:=h
 intro z; subst z; rw[e] at q; cases q
theorem aF.hid {a:Addr} {H H':Hp} (s:aF H H'):aF (L2.hid a H) (L2.hid a H'):=fun b o h=>by
 obtain⟨n,e⟩:=nj h
 rw[bV n]; exact s _ _ e
theorem SX.d7 {a p:Addr} {H H':Hp} {o:HO} (s:SX a H H') (hp:H p=none) (pa:p≠a):SX a H (L2.upd H' p o):=fun b u h=>by
 obtain⟨n,e⟩:=nj h
 rw[dH pa,aP (bN e hp)]
 exact s b u h
theorem Tp.d7 {H:Hp} {a p:Addr} {n:Nat} {o:HO} (t:Tp H a n) (pa:p≠a):Tp (L2.upd H p o) a n:=by
 obtain⟨x,y,z,e,r⟩:=t
 exact⟨x,y,z,by rw[aP (Ne.symm pa)]; exact e,r⟩
def Ss (K:PySem.W.Frag) (H:Hp) (p:Addr) (xs:List V):Prop:=(∃o,H p=some (.Dn o (.lst xs))) \/
 ∃(o:Obj) (its:Array Value) (n:Nat),K.lookup p=some o/\o.cls=.type "list" /\ o.dict=none/\o.data=.seq its n/\its.size<=sizeLine/\Vals xs its.toList
theorem Ss.sq {K:PySem.W.Frag} {H:Hp} {p:Addr} {xs:List V} (h:Ss K H p xs):dX K H p xs:=by
 rcases h with⟨o,h⟩ | h
 ·exact .inl (.inr ⟨o,h⟩)
 ·exact .inr h
theorem Ss.of {K:PySem.W.Frag} {H:Hp} {p:Addr} {xs:List V} (h:dX K H p xs) (o:Only H):Ss K H p xs:=by
 rcases h with(h | h) | h
 ·rcases o p with e | ⟨ob,ys,e⟩
  ·rw[e] at h; cases h
  ·rw[e] at h; cases h
 ·exact .inl h
 ·exact .inr h
theorem Ss.same {K:PySem.W.Frag} {H H':Hp} {p:Addr} {xs:List V} (h:Ss K H p xs) (s:aF H H'):Ss K H' p xs:=by
 rcases h with⟨o,h⟩ | h
 ·exact .inl ⟨o,s _ _ h⟩
 ·exact .inr h
end
mutual
def fine (b:Nat):PyData->Bool
 | .none=>true
 | .bool _=>true
 | .int i=>decide (i.natAbs<=b)
 | .str x=>decide (x.length<=40)&&x.cps.toList.all fun c=>decide (c<4294967296)
 | .tuple ds=>CG b ds
 | .list ds=>CG b ds
 | .dict _=>false
def CG (b:Nat):List PyData->Bool
 | []=>true
 | d::ds=>fine b d&&CG b ds
end
mutual
def aak:PyData->Nat
 | .tuple ds=>uG ds+3
 | .list ds=>uG ds+3
 | .dict _=>500
 | .none=>500
 | .bool _=>500
 | .int _=>500
 | .str _=>500
def uG:List PyData->Nat
 | []=>0
 | d::ds=>aak d+2+uG ds
end
structure ahu (b D M:Nat) (d:PyData):Prop where
 f:fine b d=true
 dp:d.depth<=D
 m:aak d<=M
structure abv (b D M:Nat) (ds:List PyData):Prop where
 f:∀d∈ds,fine b d=true
 dp:∀d∈ds,d.depth<=D
 m:uG ds<=M
section
variable {X:Cx}
end
theorem nu {xs:List V} {i:Int} (h:0<=i):mj xs none (some i)=xs.take i.toNat:=by
 obtain⟨j,rfl⟩:∃j:Nat,i=j:=⟨i.toNat,by omega⟩
 unfold mj
 rw[HT.D_,HT.nO,List.drop_zero,Nat.sub_zero,rW]
 by_cases q:j<=xs.length
 ·rw[zH q]
 ·rw[Jz (by omega),pC,LR (by omega)]
theorem nC {xs:List V} {i:Int} (h:0<=i):mj xs (some i) none=xs.drop i.toNat:=by
 obtain⟨j,rfl⟩:∃j:Nat,i=j:=⟨i.toNat,by omega⟩
 unfold mj
 rw[HT.D_,HT.nO,rW]
 by_cases q:j<=xs.length
 ·rw[zH q,LR (by rw[vJ]; omega)]
 ·rw[Jz (by omega),zM,List.take_nil,JL (by omega)]
def isS (d:PyData) (t:Str):Bool:=match d with
 | .str y=>y==t
 | _=>false
section
variable {X:Cx}
def Bm:Value->Str
 | .str t _=>t
 | _=>""
theorem BX (hu:X.A.units+64<cLine):rm X (compareOp .NotEq) (fun x y H Q=>∃d e,At H d x/\At H e y/\d.hasDict=false/\e.hasDict=false/\d.canLay0=true/\e.canLay0=true/\d.depth<=60/\Q (.bl (!PyData.eqv d e)) H):=by
 refine .mk ?_
 intro pins s σ H x y v u Q I rx ry h
 obtain⟨d,e,hd,he,n1,n2,c1,c2,dp,q⟩:=h
 obtain⟨as,r1⟩:=km I.hok _ _ _ hd rx n1
 obtain⟨bs,r2⟩:=km I.hok _ _ _ he ry n2
 exact SeqAt.compareNe_reads r1 r2 c1 c2 (by have:=Nat.min_le_left d.depth e.depth; omega) (bO I q rfl)
theorem HH (hu:X.A.units+64<cLine):rm X (compareOp .Eq) (fun x y H Q=>∃d e,At H d x/\At H e y/\d.hasDict=false/\e.hasDict=false/\d.canLay0=true/\e.canLay0=true/\d.depth<=60/\Q (.bl (PyData.eqv d e)) H):=by
 refine .mk ?_
 intro pins s σ H x y v u Q I rx ry h
 obtain⟨d,e,hd,he,n1,n2,c1,c2,dp,q⟩:=h
 obtain⟨as,r1⟩:=km I.hok _ _ _ hd rx n1
 obtain⟨bs,r2⟩:=km I.hok _ _ _ he ry n2
 exact SeqAt.compareEq_reads r1 r2 c1 c2 (by have:=Nat.min_le_left d.depth e.depth; omega) (bO I q rfl)
end
def FK (g:TG) (tb:TS) (D:Ends) (σ:St) (vs:List V) (H1:Hp):Prop:=∃j:Int,vs=[.int j]/\-(2 ^ 62)<=j/\j<2 ^ 62/\∃W:Nat->Nat->St->Hp->Prop,(∃m,W 0 m σ H1)/\∀i m σ H,W i m σ H ->
 ((Ot 0 j.toNat).stop i H/\D.nx σ H)\/((Ot 0 j.toNat).go i H/\∃N:St->Hp->Prop,(∀σ' H',N σ' H'->∃m',m'<m/\W (i+1) m' σ' H')/\∀x H',(Ot 0 j.toNat).xU i H x H'->g x σ H' fun σ2 H2=>tb { D with nx:=N,ct:=N,bk:=D.nx } σ2 H2)
theorem Dv {ta:TA} {g:TG} {tb:TS} {D:Ends} {σ:St} {H:Hp}:Dw (Aa ta) g tb D σ H=ta σ H (FK g tb D σ):=rfl
theorem FK.of {g:TG} {tb:TS} {D:Ends} {σ:St} {H:Hp} {n:Nat} {i:Int} (ei:i=n) (hn:n<=1000000) (Pv:Nat->St->Hp->Prop) (h0:Pv 0 σ H)
  (hs:∀i σ H,i<n->Pv i σ H->g (.int (0+(i:Nat))) σ H fun σ2 H2=>tb { D with nx:=Pv (i+1),ct:=Pv (i+1),bk:=D.nx } σ2 H2) (hd:∀σ H,Pv n σ H->D.nx σ H):FK g tb D σ [.int i] H:=by
 subst ei
 refine⟨n,rfl,by omega,by omega,?_⟩
 rw[rW]
 exact Af Pv h0 hs hd
def TK (K:PySem.W.Frag) (g:TG) (tb:TS) (D:Ends) (σ:St) (x:V) (H1:Hp):Prop:=∃a,x=.ref a/\(∃xs,cG K H1 a xs)/\∃W:Nat->Nat->St->Hp->Prop,(∃m,W 0 m σ H1)/\∀i m σ H,W i m σ H ->
 ((Wt K a).stop i H/\D.nx σ H)\/((Wt K a).go i H/\∃N:St->Hp->Prop,(∀σ' H',N σ' H'->∃m',m'<m/\W (i+1) m' σ' H')/\∀x H',(Wt K a).xU i H x H'->g x σ H' fun σ2 H2=>tb { D with nx:=N,ct:=N,bk:=D.nx } σ2 H2)
theorem uU {K:PySem.W.Frag} {tl:TE} {g:TG} {tb:TS} {D:Ends} {σ:St} {H:Hp}:Dw (wO K tl) g tb D σ H=tl σ H (TK K g tb D σ):=rfl
theorem TK.of {K:PySem.W.Frag} {g:TG} {tb:TS} {D:Ends} {σ:St} {H:Hp} {a:Addr} {xs:List V} (ha:H a=some (.tup xs)) (Pv:Nat->St->Hp->Prop) (h0:Pv 0 σ H) (hl:∀i σ H',i<=xs.length->Pv i σ H'->H' a=some (.tup xs))
  (hs:∀i x σ H,xs[i]?=some x->Pv i σ H->g x σ H fun σ2 H2=>tb { D with nx:=Pv (i+1),ct:=Pv (i+1),bk:=D.nx } σ2 H2) (hd:∀σ H,Pv xs.length σ H->D.nx σ H):TK K g tb D σ (.ref a) H:=
 ⟨a,rfl,⟨xs,cG.of ha⟩,Vc (xs:=xs) Pv h0 (fun i σ H' hi p=>cG.of (hl i σ H' hi p)) hs hd⟩
def CK (js:List Nat) (te:TE) (σ:St) (Q:VK) (vs:List V) (H1:Hp):Prop:=∃j:Int,vs=[.int j]/\-(2 ^ 62)<=j/\j<2 ^ 62/\∀acc,H1 acc=none->∃W:Nat->Nat->List V->Hp->Prop,(∃m,W 0 m [] (upd H1 acc (.lst [])))/\∀i m ys H2,W i m ys H2 ->
 ((Ot 0 j.toNat).stop i H2/\Q (.ref acc) H2)\/((Ot 0 j.toNat).go i H2/\∀x H3,(Ot 0 j.toNat).xU i H2 x H3->te (some x::bW js σ) H3 fun y H4=>H4 acc=some (.lst ys)/\ys.length<sizeLine/\∃m',m'<m/\W (i+1) m' (ys++[y]) (upd H4 acc (.lst (ys++[y]))))
theorem j8 {js:List Nat} {ta:TA} {te:TE} {σ:St} {H:Hp} {Q:VK}:gK js (Aa ta) te σ H Q=ta σ H (CK js te σ Q):=rfl
theorem CK.of {js:List Nat} {te:TE} {σ:St} {H:Hp} {Q:VK} {n:Nat} {i:Int} (ei:i=n) (hn:n<=1000000)
  (h:∀acc,H acc=none->∃Pv:Nat->List V->Hp->Prop,Pv 0 [] (upd H acc (.lst [])) /\
   (∀i ys H',i<n->Pv i ys H'->te (some (.int (0+(i:Nat)))::bW js σ) H' fun y cZ=>cZ acc=some (.lst ys)/\ys.length<sizeLine/\Pv (i+1) (ys++[y]) (upd cZ acc (.lst (ys++[y])))) /\
   ∀ys H',Pv n ys H'->Q (.ref acc) H'):CK js te σ Q [.int i] H:=by
 subst ei
 have:=RL (ta:=fun _ H R=>R [.int n] H) (σ:=σ) (H:=H) (Q:=Q) (js:=js) (te:=te) (n:=n) (fun R hR=>hR) hn h
 exact this
def Gs (mg:Str->Option Value) (x:Str) (i:Str):Prop:=∃t,mg x=some (.str i t)
theorem vW {X:Cx} {x:Str} {i:Str} {pos:Pos} (h:Gs X.mg x i) (hg:Gl X x:=by rfl) (hd:(x==("__debug__" : Str))=false:=by decide):PE X (.Name x pos) (tC (.str i)):=by
 obtain⟨t,ht⟩:=h
 exact uz hg ht ⟨t,rfl⟩ hd
def d9 (b:Int):List Int->Int
 | []=>b
 | x::r=>d9 (if x>b then x else b) r
section
variable {prog:Program} {w:World} {A:Around} {R:Result->Shared->Prop} {It:Addr} {fp wr:List Addr} {n:Nat} {Pv:Nat->Value->Prop} {St:Nat->Heap->Prop}
theorem QZ {ns:List Int} (W:Walks prog w A.in1 It fp wr n Pv St) (hn:n=ns.length) (hv:∀i v,Pv i v->∃t,v=.int (ns.getD i 0) t) (C:Addr) (nf:C∉fp) (d:Value):∀(m j:Nat) (z:Shared) (best:Int) (tb:Tok) (c:Nat),ns.length-j=m->j<=ns.length->St j z.heap ->
  z.heap.get? C=some ⟨.type "list",none,.seq #[.int best tb,.int best tb] c,#[]⟩ ->
  (∀t h' tk,(∀b o,b∉wr->b≠C->z.heap.get? b=some o->h'.get? b=some o)->R (.ok (.ret (.int (d9 best (ns.drop j)) t))) { z with heap:=h',toks:=tk }) ->
  codeAny (model prog w) A (.builtin "max.loop" ⟨[.ref It,.none,.ref C],[("default",d)]⟩) R z:=by
 subst hn
 have nw:C∉wr:=fun q=>nf (W.sub _ q)
 have nm:(toString "max" ++ toString ".loop" : String) = "max.loop" := by decide
 intro m
 induction m with
 | zero=>
  intro j z best tb c hm hj st hC fin
  have e:j=ns.length:=by omega
  subst e
  refine codeAny_builtin PySem.F.entry_max_loop ?_
  rw[Around.under_plainId PySem.F.plain_max_loop _]
  show wpAny _ A.in1 (seqItems? (.ref C) >>= _) _ _ z
  refine aQ (qu hC rfl ?_)
  show wpAny _ A.in1 (tryCatch (pyNext (.ref It)) _ >>= _) _ _ z
  refine aQ (zx (W.done z _ _ st fun h' tk kp=>?_))
  refine aQ (wpAny_updateSeq (kp C _ nw hC) rfl (aQ (vN (bU ?_))))
  rw[zM] at fin
  exact fin tb _ tk fun b o h1 h2 h3=>(ug _ _ (Ne.symm h2)).trans (kp b o h1 h3)
 | succ m ih=>
  intro j z best tb c hm hj st hC fin
  have lt:j<ns.length:=by omega
  refine codeAny_builtin PySem.F.entry_max_loop ?_
  rw[Around.under_plainId PySem.F.plain_max_loop _]
  show wpAny _ A.in1 (seqItems? (.ref C) >>= _) _ _ z
  refine aQ (qu hC rfl ?_)
  show wpAny _ A.in1 (tryCatch (pyNext (.ref It)) _ >>= _) _ _ z
  refine aQ (zx (W.item j z _ _ lt st fun v h' tk hP st' kp=>?_))
  obtain⟨t,rfl⟩:=hv j v hP
  have hC':=kp C _ nw hC
  show wpAny _ A.in1 (tryCatch (holding [_,_] (richCompare .Gt _ (.int best tb) >>= _)) _ >>= _) _ _ _
  refine aQ (zx (rQ (aQ (richCompare_gives (op:=.Gt) (typeIs_int _ _ t) (typeIs_int _ _ tb) PySem.F.slot_int_gt PySem.F.entry_int_gt (PySem.F.args_int_gt_2 _ _) (gives_int_gt _ _ t tb) (fun x=>nomatch x) ?_))))
  refine aQ (rQ (Eh (aQ (vN (bU ?_)))))
  have dr:ns.drop j=ns.getD j 0::ns.drop (j+1):=by
   rw[Qu lt,fJ,fM lt]; rfl
  rw[dr] at fin
  by_cases hb:ns.getD j 0>best
  ·have e1:d9 best (ns.getD j 0::ns.drop (j+1))=d9 (ns.getD j 0) (ns.drop (j+1)):=by rw[d9,aL hb]
   rw[e1] at fin
   rw[gC hb]
   simp only[if_true]
   refine aQ (wpAny_updateSeq hC' rfl (aQ (vN ?_)))
   rw[nm]
   refine bU ⟨plainId_quiet PySem.F.plain_max_loop _,ih (j+1) _ _ t _ (by omega) lt (W.frame _ _ _ st' fun b hb o e=>?_) (yf _ hC' rfl) fun t2 h2 tk2 k2=>?_⟩
   ·exact(ug _ _ (fun q:C=b=>nf (by rw[q]; exact hb))).trans e
   ·exact fin t2 h2 tk2 fun b o h1 h3 e=>k2 b o h1 h3 ((ug _ _ (Ne.symm h3)).trans (kp b o h1 e))
  ·have e1:d9 best (ns.getD j 0::ns.drop (j+1))=d9 best (ns.drop (j+1)):=by rw[d9,bB hb]
   rw[e1] at fin
   rw[gY hb]
   simp only[jk,if_false]
   refine aQ (vN ?_)
   rw[nm]
   refine bU ⟨plainId_quiet PySem.F.plain_max_loop _,ih (j+1) _ best tb c (by omega) lt st' hC' fun t2 h2 tk2 k2=>?_⟩
   exact fin t2 h2 tk2 fun b o h1 h3 e=>k2 b o h1 h3 (kp b o h1 e)
theorem MP {ns:List Int} (W:Walks prog w A.in1 It fp wr n Pv St) (hn:n=ns.length) (hv:∀i v,Pv i v->∃t,v=.int (ns.getD i 0) t) (C:Addr) (nf:C∉fp) (d:Value) (z:Shared) (c:Nat) (st:St 0 z.heap)
  (hC:z.heap.get? C=some ⟨.type "list",none,.seq #[] c,#[]⟩)
  (f0:ns=[]->∀h' tk,(∀b o,b∉wr->b≠C->z.heap.get? b=some o->h'.get? b=some o)->R (.ok (.ret d)) { z with heap:=h',toks:=tk })
  (f1:∀x r,ns=x::r->∀t h' tk,(∀b o,b∉wr->b≠C->z.heap.get? b=some o->h'.get? b=some o)->R (.ok (.ret (.int (d9 x r) t))) { z with heap:=h',toks:=tk }) :
  codeAny (model prog w) A (.builtin "max.loop" ⟨[.ref It,.none,.ref C],[("default",d)]⟩) R z:=by
 have nw:C∉wr:=fun q=>nf (W.sub _ q)
 have nm:(toString "max" ++ toString ".loop" : String) = "max.loop" := by decide
 refine codeAny_builtin PySem.F.entry_max_loop ?_
 rw[Around.under_plainId PySem.F.plain_max_loop _]
 show wpAny _ A.in1 (seqItems? (.ref C) >>= _) _ _ z
 refine aQ (qu hC rfl ?_)
 show wpAny _ A.in1 (tryCatch (pyNext (.ref It)) _ >>= _) _ _ z
 cases ns with
 | nil=>
  subst hn
  refine aQ (zx (W.done z _ _ st fun h' tk kp=>?_))
  show wpAny _ A.in1 (rule _ >>= _) _ _ _
  exact aQ (qw (bU (f0 rfl h' tk fun b o h1 _ e=>kp b o h1 e)))
 | cons x r=>
  refine aQ (zx (W.item 0 z _ _ (by rw[hn]; exact Nat.succ_pos _) st fun v h' tk hP st' kp=>?_))
  obtain⟨t,e⟩:=hv 0 v hP
  have e:v=.int x t:=e
  subst e
  have hC':=kp C _ nw hC
  show wpAny _ A.in1 (updateSeq C (fun _=>#[Value.int x t,Value.int x t]) >>= _) _ _ _
  refine aQ (wpAny_updateSeq hC' rfl ?_)
  rw[nm]
  refine bU ⟨plainId_quiet PySem.F.plain_max_loop _,QZ W hn hv C nf d _ 1 _ x t _ rfl (by simp) (W.frame _ _ _ st' fun b hb o e=>?_) (yf _ hC' rfl) fun t2 h2 tk2 k2=>?_⟩
  ·exact(ug _ _ (fun q:C=b=>nf (by rw[q]; exact hb))).trans e
  ·exact f1 x r rfl t2 h2 tk2 fun b o h1 h3 e=>k2 b o h1 h3 ((ug _ _ (Ne.symm h3)).trans (kp b o h1 e))
end
theorem N7 (a v:Value):argsOk "max" ⟨[a],[("default",v)]⟩:=by unfold argsOk; kernel_rfl
section
variable {prog:Program} {w:World} {A:Around} {E:Value->Shared->Prop} {s:Shared}
theorem Nz {l:Addr} {its:List Value} {ns:List Int} {d:Value} {Q:Value->Shared->Prop} (hh:A.handled=none) (hl:s.heap.IsList l its.toArray) (hi:∀i v,its[i]?=some v->∃t,v=Value.int (ns.getD i 0) t) (hlen:its.length=ns.length)
  (h0:ns=[]->∀h' tk,(∀b o,s.heap.get? b=some o->h'.get? b=some o)->Q d { s with heap:=h',toks:=tk })
  (h1:∀b r,ns=b::r->∀t h' tk,(∀b o,s.heap.get? b=some o->h'.get? b=some o)->Q (Value.int (d9 b r) t) { s with heap:=h',toks:=tk }) :
  wpAny (model prog w) A (call (.builtin "max") [.ref l] [("default",d)]) Q E s:=by
 have nm:(toString "max" ++ toString ".loop" : String) = "max.loop" := by decide
 have lt:l<s.heap.objs.size:=by obtain⟨_,e,_⟩:=hl; exact b_ e
 refine kmk_tree PySem.F.kind_max PySem.F.plain_max PySem.F.entry_max (N7 _ _) ?_
 show wpAny _ A.in1 (Builtin.Builtins.bindParams "max" ["key","default"] 0 ⟨[],[("default",d)]⟩ >>= _) _ _ s
 refine aQ (ud (show Builtin.Builtins.bindParams "max" ["key","default"] 0 ⟨[],[("default",d)]⟩=pure [none,some d] from rfl) ?_)
 refine aQ (bU ?_)
 refine aQ (Hu hl ?_)
 refine aQ (uf ?_)
 rw[nm]
 have W:=Walks.list (prog:=prog) (w:=w) (A:=A.in1) hh s.heap.objs.size l (fK lt) its.toArray
 generalize eh:s.heap.push { cls:=.type "list_iterator",data:=.fields #[.ref l,.int 0 0] }=h1'
 have sz:h1'.objs.size=s.heap.objs.size+1:=by rw[<- eh,jP]
 have k1:∀b o,s.heap.get? b=some o->h1'.get? b=some o:=fun b o e=>by rw[<- eh]; exact eO _ e
 have hit:h1'.IsListIter s.heap.objs.size l 0:=by rw[<- eh]; exact⟨_,dM _ rfl,rfl,rfl⟩
 have hl1:h1'.IsList l its.toArray:=by rw[<- eh]; exact hl.push _
 have nf:h1'.objs.size∉[s.heap.objs.size,l]:=fun q=>by
  rcases b7.mp q with e | q
  ·rw[sz] at e; exact Nat.succ_ne_self _ e
  ·have e:=fU.mp q; rw[sz] at e; rw[<- e] at lt; exact rP _ (Nat.lt_trans (Eu _) lt)
 have ol:∀{h':Heap},(∀b o,b∉[s.heap.objs.size]->b≠h1'.objs.size->(h1'.push { cls:=.type "list",data:=.seq #[] 0 }).get? b=some o->h'.get? b=some o)->∀b o,s.heap.get? b=some o->h'.get? b=some o:=fun k b o e=>by
  have lb:=b_ e
  refine k b o (fun q=>?_) (fun q=>?_) (eO _ (k1 b o e))
  ·rw[fU.mp q] at lb; exact rP _ lb
  ·rw[q,sz] at lb; exact rP _ (Nat.lt_trans (Eu _) lb)
 refine bU ⟨plainId_quiet PySem.F.plain_max_loop _,MP (ns:=ns) W (by rw[fB,hlen]) (fun i v e=>hi i v (by simpa using e)) h1'.objs.size nf d _ _ ?_ (dM _ rfl) (fun e h' tk k=>h0 e h' tk (ol k)) (fun x r e t h' tk k=>h1 x r e t h' tk (ol k))⟩
 exact W.frame _ _ _ (show h1'.IsListIter s.heap.objs.size l 0/\h1'.IsList l its.toArray from⟨hit,hl1⟩) fun b _ o e=>eO _ e
end
section
variable {X:Cx}
def VH (t:TA) (te:TE):TE:=fun σ H Q=>t σ H fun vs H1=>te σ H1 fun y H2=>∃(p:Addr) (ns:List Int),vs=[.ref p]/\H2 p=some (.lst (ns.map V.int))/\(ns=[]->Q y H2)/\∀b r,ns=b::r->Q (.int (d9 b r)) H2
theorem Be {ns:List Int}:∀{us:List Value},Vals (ns.map V.int) us->∀i v,us[i]?=some v->∃t,v=Value.int (ns.getD i 0) t:=by
 induction ns with
 | nil=>intro us r i v e; cases r; simp at e
 | cons n ns ih=>
  intro us r i v e
  cases r with
  | cons r1 r2=>
   cases i with
   | zero=>
    obtain⟨t,rfl⟩:=(r1:∃t,_=Value.int n t)
    simp at e
    exact⟨t,e.symm⟩
   | succ i=>simpa using ih r2 i v (by simpa using e)
theorem JT {e e2:Expr} {t:TA} {te:TE} {p pos U6:Pos} (hc:X.calm=true) (hm:X.mg "max" = none) (ha:PA X [e] t) (hk:PE X e2 te) (hg:Gl X "max" := by rfl) (h1:cC e=true:=by rfl) :
  PE X (.Call (.Name "max" p) [e] [⟨some "default",e2,U6⟩] pos) (VH t te):=by
 refine .mk ?_
 intro pins s σ H Q I h
 refine rY (iR I hg hm iT ?_ (by decide) (by decide))
 refine callWith_kw ?_ ?_ ?_ ?_ ?_
 ·refine cQ (ha pos pins s σ H _ I h) fun us s1 qx=>?_
  obtain⟨vs,H1,I1,r,q⟩:=qx
  refine cQ ((T_ hk Xm:PK X [⟨some "default",e2,U6⟩] _) pos pins s1 σ H1 (fun ys H2=>∃y,ys=[y]/\(∃(p:Addr) (ns:List Int),vs=[.ref p]/\H2 p=some (.lst (ns.map V.int))/\(ns=[]->Q y H2)/\∀b r,ns=b::r->Q (.int (d9 b r)) H2)) I1 ?_) fun ws s2 ⟨zs,H2,I2,rz,q2⟩=>?_
  ·show te σ H1 (fun x H2=>∃y,[x]=[y]/\_)
   have fe:(fun(x:V) (H2:Hp)=>∃y,[x]=[y]/\(∃(p:Addr) (ns:List Int),vs=[.ref p]/\H2 p=some (.lst (ns.map V.int))/\(ns=[]->Q y H2)/\∀b r,ns=b::r->Q (.int (d9 b r)) H2))=fun y H2=>∃(p:Addr) (ns:List Int),vs=[.ref p]/\H2 p=some (.lst (ns.map V.int))/\(ns=[]->Q y H2)/\∀b r,ns=b::r->Q (.int (d9 b r)) H2:=by
    funext x H2
    refine propext ⟨?_,fun z=>⟨x,rfl,z⟩⟩
    rintro⟨y,ey,z⟩
    cases ey
    exact z
   rw[fe]
   exact q
  ·obtain⟨y,rfl,l,ns,rfl,hl,q0,q1⟩:=q2
   obtain⟨u,rfl,ru⟩:=r.one
   cases ru
   obtain⟨v,rfl,rv⟩:=rz.one
   obtain⟨_,its,n,rvs,eo⟩:=I2.hok l _ hl
   have hlen:=rvs.length
   rw[bR] at hlen
   refine Nz (ns:=ns) (I2.ok.hd hc) (show s2.heap.IsList l its.toArray from⟨_,eo,rfl,n,rfl⟩) (Be rvs) hlen.symm (fun e h' tk k=>⟨y,H2,I2.kept (t':=tk) k,rv,q0 e⟩) (fun b r e t h' tk k=>⟨.int (d9 b r),H2,I2.kept (t':=tk) k,⟨t,rfl⟩,q1 b r e⟩)
 ·rw[cR h1]; rfl
 ·exact cL (es:=[e]) (by simp[h1])
 ·rfl
 ·rfl
end
def c7 (t:Str):Nat:=if(("come" : Str)==t)=true then 0 else if(("done" : Str)==t)=true then 1 else 2
def OJ:List V:=[.str "come",.str "done",.str "wait"]
def Z1 (K:PySem.W.Frag):V->List V->Hp->VK->Prop:=fun x xs H Q=>∃(p:Addr) (t:Str),x=.ref p/\cG K H p OJ/\xs=[.str t]/\t∈(["come","done","wait"]:List Str)/\Q (.int (c7 t)) H
def Xi:V->List V->Hp->VK->Prop:=fun x xs H Q=>∃(p:Addr) (t:Str),x=.ref p/\H p=some (.lst OJ)/\xs=[.str t]/\t∈(["come","done","wait"]:List Str)/\Q (.int (c7 t)) H
theorem uQ {x y z:V} {us:List Value} (h:Vals [x,y,z] us):∃u v q,us=[u,v,q]/\RelV x u/\RelV y v/\RelV z q:=by
 obtain⟨u,r,rfl,h1,h⟩:=h.un
 obtain⟨v,q,rfl,h2,h3⟩:=h.two
 exact⟨u,v,q,rfl,h1,h2,h3⟩
theorem Ke {t:Str} (h:t∈(["come","done","wait"]:List Str)) (h0:(("come" : Str)==t)=false) (h1:(("done" : Str)==t)=false):(("wait" : Str)==t)=true:=by
 simp only[b7,jQ,or_false] at h
 rcases h with rfl | rfl | rfl
 ·revert h0; decide +kernel
 ·revert h1; decide +kernel
 ·decide +kernel
section
variable {X:Cx}
theorem Du {prog:Program} {w:World} {A:Around} {E:Value->Shared->Prop} {s:Shared} {p:Addr} {a b c t:Str} {k0 k1 k2 k3:Tok} {Q:Value->Shared->Prop} (ht:IsTup s.heap p #[.str a k0,.str b k1,.str c k2]) (hl:(a==t)=false->(b==t)=false->(c==t)=true)
  (q:∀tk,Q (Value.int (if(a==t)=true then 0 else if(b==t)=true then 1 else 2) tk) { s with toks:=s.toks+1 }):wpAny (model prog w) A (call (.builtin "tuple.index") [.ref p,.str t k3]) Q E s:=by
 refine vK PySem.F.slot_tuple_index ht.typeIs PySem.F.entry_tuple_index ?_ (PySem.F.args_tuple_index_2 _ _)
 show wpAny _ A.in1 (Builtin.Tuple.tupleItemsOf (.ref p) >>= _) _ _ s
 refine aQ (tupleItemsOf_ ht ?_)
 show wpAny _ _ ((pure 0:Sem Nat) >>= _) _ _ s
 refine aQ (bU ?_)
 show wpAny _ _ ((pure 3:Sem Nat) >>= _) _ _ s
 refine aQ (bU ?_)
 show wpAny _ _ (forIn [0:3] _ _ >>= _) _ _ s
 rw[Std.Legacy.Range.forIn_eq_forIn_range']
 have e:List.range' [0:3].start [0:3].size [0:3].step=[0,1,2]:=rfl
 rw[e,zE]
 have mk:∀(i:Int) {R:PySem.Fin->Shared->Prop},(∀tk,R (.done (.ret (.int i tk))) { s with toks:=s.toks+1 })->wpAny (model prog w) A.in1 (retInt i) R E s:=fun i {R} h=>by
  unfold retInt
  refine aQ (wpAny_mkInt (bU (h _)))
 have eq:∀(z:Str) (k:Tok),SeqAt.EqAt A.in1 s (.str z k) (.str t k3) (z==t):=fun z k=>SeqAt.EqAt.str_str z k t k3
 cases e0:(a==t) with
 | true=>
  rw[e0] at q
  refine aQ (aQ (aQ (eq a k0 _ _ _ _ ?_)))
  rw[e0,aL rfl]
  refine aQ (mk 0 fun tk=>bU (bU (bU ⟨_,rfl,q tk⟩)))
 | false=>
  rw[e0] at q
  refine aQ (aQ (aQ (eq a k0 _ _ _ _ ?_)))
  rw[e0,bB (by decide)]
  refine bU ?_
  show wpAny _ _ (forIn [1,2] _ _) _ _ s
  rw[zE]
  cases e1:(b==t) with
  | true=>
   rw[e1] at q
   refine aQ (aQ (eq b k1 _ _ _ _ ?_))
   rw[e1,aL rfl]
   refine aQ (mk 1 fun tk=>bU (bU (bU ⟨_,rfl,q tk⟩)))
  | false=>
   rw[e1] at q
   refine aQ (aQ (eq b k1 _ _ _ _ ?_))
   rw[e1,bB (by decide)]
   refine bU ?_
   show wpAny _ _ (forIn [2] _ _) _ _ s
   rw[zE]
   refine aQ (aQ (eq c k2 _ _ _ _ ?_))
   rw[hl e0 e1,aL rfl]
   refine aQ (mk 2 fun tk=>bU (bU (bU ⟨_,rfl,q tk⟩)))
theorem MT {K:PySem.W.Frag} (hK:X.K=K):MtR X "tuple.index" (Z1 K):=by
 subst hK
 intro pins s σ H x xs v us Q I rx rv h
 obtain⟨p,t,rfl,hp,rfl,ht,q⟩:=h
 cases rx
 obtain⟨u,rfl,tk,rfl⟩:=rv.one
 obtain⟨its,r,pt,_⟩:=I.tuple hp
 obtain⟨u0,u1,u2,rfl,⟨k0,rfl⟩,⟨k1,rfl⟩,⟨k2,rfl⟩⟩:=uQ r
 refine Du pt (Ke ht) fun tk'=>⟨.int (c7 t),H,I.tok _,⟨tk',?_⟩,q⟩
 unfold c7
 split
 ·rfl
 ·split <;> rfl
theorem M3:MtR X "list.index" Xi:=by
 intro pins s σ H x xs v us Q I rx rv h
 obtain⟨p,t,rfl,hp,rfl,ht,q⟩:=h
 cases rx
 obtain⟨u,rfl,tk,rfl⟩:=rv.one
 obtain⟨_,its,n,r,e⟩:=I.hok p _ hp
 obtain⟨u0,u1,u2,rfl,⟨k0,rfl⟩,⟨k1,rfl⟩,⟨k2,rfl⟩⟩:=uQ r
 have ee:∀y,y ∈ #[Value.str "come" k0,Value.str "done" k1,Value.str "wait" k2]->SeqAt.EqAt X.A.in1 s y (.str t tk) (Bm y==t):=fun y hy=>by
  simp only[List.mem_toArray,b7,jQ,or_false] at hy
  rcases hy with rfl | rfl | rfl <;> exact SeqAt.EqAt.str_str _ _ _ _
 have fin:∀j:Nat,c7 t=j->(∃x H',Inv X pins σ H' { s with toks:=s.toks+1 }/\RelV x (.int (j:Int) s.toks)/\Q x H'):=fun j ej=>⟨.int j,H,I.tok _,⟨_,rfl⟩,by rw[<- ej]; exact q⟩
 cases e0:(("come" : Str)==t) with
 | true=>
  refine call_meets PySem.F.slot_list_index ⟨_,e,rfl⟩ PySem.F.entry_list_index (PySem.F.args_list_index_2 _ _) (SeqAt.list_indexAt p #[.str "come" k0,.str "done" k1,.str "wait" k2] n none #[] (.str t tk) (fun y=>Bm y==t) 0 (by show 0<3; decide) (by decide) e0 (fun m hm h=>by omega)) ⟨e,ee,?_⟩
  exact fin 0 (by unfold c7; rw[aL e0])
 | false=>
  cases e1:(("done" : Str)==t) with
  | true=>
   refine call_meets PySem.F.slot_list_index ⟨_,e,rfl⟩ PySem.F.entry_list_index (PySem.F.args_list_index_2 _ _) (SeqAt.list_indexAt p #[.str "come" k0,.str "done" k1,.str "wait" k2] n none #[] (.str t tk) (fun y=>Bm y==t) 1 (by show 1<3; decide) (by decide) e1 (fun m hm h=>by
    have:m=0:=by omega
    subst this; exact e0)) ⟨e,ee,?_⟩
   exact fin 1 (by unfold c7; rw[bB (by rw[e0]; decide),aL e1])
  | false=>
   refine call_meets PySem.F.slot_list_index ⟨_,e,rfl⟩ PySem.F.entry_list_index (PySem.F.args_list_index_2 _ _) (SeqAt.list_indexAt p #[.str "come" k0,.str "done" k1,.str "wait" k2] n none #[] (.str t tk) (fun y=>Bm y==t) 2 (by show 2<3; decide) (by decide) (Ke ht e0 e1) (fun m hm h=>by
    have:m=0\/m=1:=by omega
    rcases this with rfl | rfl
    ·exact e0
    ·exact e1)) ⟨e,ee,?_⟩
   exact fin 2 (by unfold c7; rw[bB (by rw[e0]; decide),bB (by rw[e1]; decide)])
def GT2 (K:PySem.W.Frag) (mg:Str->Option Value) (x:Str) (W:List V):Prop:=∃a,mg x=some (.ref a)/\(∃o,K.lookup a=some o/\o.cls=.type "tuple" /\ o.dict=none)/\∀H,cG K H a W
def WW (K:PySem.W.Frag) (W:List V):TE:=fun _ H Q=>∀a,(∃o,K.lookup a=some o/\o.cls=.type "tuple" /\ o.dict=none)->(∀H',cG K H' a W)->Q (.ref a) H
theorem JQ {K:PySem.W.Frag} {x:Str} {W:List V} {pos:Pos} (hK:X.K=K) (h:GT2 K X.mg x W) (hg:Gl X x:=by rfl) (hd:(x==("__debug__" : Str))=false:=by decide):PE X (.Name x pos) (WW K W):=by
 obtain⟨a,ha,ho,hs⟩:=h
 refine .mk ?_
 intro pins s σ H Q I q
 exact uz (v:=.ref a) hg ha rfl hd pins s σ H Q I (q a ho hs)
end
section
variable {X:Cx} {pos:Pos}
def Zr (i j l:Nat) (ta:TA):TS:=fun D σ H=>ta σ H fun vs H1=>∃v w z,vs=[v,w,z]/\D.nx (((σ.set l (some z)).set j (some w)).set i (some v)) H1
end
theorem Inv.Jb {X:Cx} {pins:List (Addr×Obj)} {σ:St} {H:Hp} {s:Shared} {h':Heap} {t':Nat} {e it:Addr} (I:Inv X pins σ H s) (k:∀b o,b≠e->b≠it->s.heap.get? b=some o->h'.get? b=some o) (fe:gG X pins H e) (fi:gG X pins H it) :
  Inv X pins σ H { s with heap:=h',toks:=t' }:=by
 have k2:∀b o,b∉[e,it]->s.heap.get? b=some o->h'.get? b=some o:=fun b o hb q=>k b o (fun z=>hb (by simp[z])) (fun z=>hb (by simp[z])) q
 have fp:∀b∈[e,it],gG X pins H b:=fun b hb=>by
  rcases b7.mp hb with z | z
  ·rw[z]; exact fe
  ·rw[fU.mp z]; exact fi
 have ni:∀b u,H b=some u->b∉[e,it]:=fun b u q hb=>by rw[(fp b hb).1] at q; cases q
 refine I.step (g':=s.gens) (d':=s.drawn) (ch:=[e,it]) (fun b hb=>?_) (fun b o _ _ hc q _=>k2 b o hc q) (fun b o _ _ hc q _=>⟨o.slots,k2 b o hc q⟩) (fun _ _ _ _ n=>n) (fun b o hc q=>⟨o,k2 b o hc q⟩) (fun _ _ q=>q) (fun _ _ _ q=>q)
  (fun b ps q=>⟨#[],by rw[q]; simp⟩) (fun m hm=>?_) (fun b u q=>?_) I.bare
 ·obtain⟨_,f1,_,f3,f4,f5⟩:=fp b hb
  exact⟨f3,f1,f4,f5⟩
 ·obtain⟨o,es,ep,ho,r⟩:=hm
  refine⟨o,es,ep,k2 _ o (fun hb=>(fp _ hb).2.1 rfl) ho,r⟩
 ·refine(I.hok b u q).stay (fun c v hc z=>k2 c v ?_ z) (fun _ z=>z) fun _ _ z=>z
  rcases hc with z | z
  ·rw[z]; exact ni b u q
  ·exact ni c _ z
def Y4 (K:PySem.W.Frag) (a:Addr):It:=
 ⟨fun i H=>∃xs x,dX K H a xs/\xs[i]?=some x,fun i H x H'=>∃p y,H p=none/\x=.ref p/\H'=upd H p (.tup [.int i,y])/\∀xs,dX K H a xs->xs[i]?=some y,fun i H=>∃xs,dX K H a xs/\xs.length<=i⟩
theorem Lg {P:Program} {w:World} {K:PySem.W.Frag} {elts:List Expr} {x1} {tp:Pos} (a e it:Addr) (hne:e≠it):Turn P w K (.Tuple elts x1 tp) (Y4 K a) [e,it] e (fun i h=>(∃old,IsEnum h e it (i:Nat) old)/\h.IsListIter it a i) where
 mem:=by simp
 obj:=fun i h st b hb=>by
  obtain⟨⟨old,he⟩,o,ho,c,d⟩:=st
  rcases b7.mp hb with z | z
  ·rw[z]; exact⟨_,he,fun v q=>by cases q⟩
  ·rw[fU.mp z]; exact⟨o,ho,fun v q=>by rw[d] at q; cases q⟩
 keep:=fun i h h' st k=>by
  obtain⟨⟨old,he⟩,hi⟩:=st
  exact⟨⟨old,k e (by simp) _ he⟩,hi.at fun o q=>k it (by simp) o q⟩
 item:=by
  intro X hP hw hK hc i pins s σ H E I hf st hg
  subst hP hw hK
  obtain⟨⟨old,he⟩,hi⟩:=st
  obtain⟨xs,x,hq,hx⟩:=hg
  obtain⟨its,rv,p,hz⟩:=I.list hq
  obtain⟨u,hu,ru⟩:=rv.get hx
  have fe:=hf e (by simp)
  have fi:=hf it (by simp)
  refine wpAny_pyNext_enum_item he hi p.isList (x:=u) (by simpa using hu) hne fun h' eo hi' ht hsz kk=>?_
  have fr:H s.heap.objs.size=none:=I.hok.fresh (bF _)
  have I1:Inv X pins σ (upd H s.heap.objs.size (.tup [.int i,x])) { s with heap:=s.heap.push { cls:=.type "tuple",data:=.seq #[.int i s.toks,u] },toks:=s.toks }:=
   I.laid (t':=s.toks) (fun b v q=>eO _ q) (bF _) ⟨(by show 2<=sizeLine; decide),[.int i s.toks,u],.cons ⟨_,rfl⟩ (.cons ru .nil),⟨_,dM _ rfl,rfl,_,rfl⟩⟩
  have ee:e<s.heap.objs.size:=b_ he
  have ei:it<s.heap.objs.size:=by obtain⟨o,ho,_⟩:=hi; exact b_ ho
  have Ii:gG X pins (upd H s.heap.objs.size (.tup [.int i,x])) e:=⟨by rw[aP (fK ee)]; exact fe.1,fe.2⟩
  have fi1:gG X pins (upd H s.heap.objs.size (.tup [.int i,x])) it:=⟨by rw[aP (fK ei)]; exact fi.1,fi.2⟩
  have I2:Inv X pins σ (upd H s.heap.objs.size (.tup [.int i,x])) { s with heap:=h',toks:=s.toks+1 }:=I1.Jb (t':=s.toks+1) (fun b o h1 h2 q=>by
   by_cases z:b=s.heap.objs.size
   ·subst z
    rw[dM _ rfl] at q
    cases q
    exact ht
   ·rcases Heap.get?_push_cases q with w | w
    ·exact absurd w.1 z
    ·exact kk b o h1 h2 w) Ii fi1
  refine⟨_,rfl,wpAny_letOwnedTupleGo_enum eo fun h'' en sb=>⟨.ref s.heap.objs.size,_,I2.turned (it:=e) (t':=s.toks+1) (fun b o hb q=>sb.extBut b o hb q) Ii.1 Ii.2.1 Ii.2.2.2.1 Ii.2.2.2.2.1 Ii.2.2.2.2.2,rfl,⟨_,x,fr,rfl,rfl,fun ys hy=>by rw[I.wG hy hq]; exact hx⟩,⟨⟨_,en⟩,?_⟩,fun b hb=>?_⟩⟩
  ·exact hi'.at fun o q=>sb.extBut it o (Ne.symm hne) q
  ·rcases b7.mp hb with z | z
   ·rw[z]; exact Ii.1
   ·rw[fU.mp z]; exact fi1.1
 done:=by
  intro X hP hw hK hc i pins s σ H E I hf st hg
  subst hP hw hK
  obtain⟨⟨old,he⟩,hi⟩:=st
  obtain⟨xs,hq,hx⟩:=hg
  obtain⟨its,rv,p,hz⟩:=I.list hq
  have hl:=rv.length
  obtain⟨f0,f1,f2,f3,f4,f5⟩:=hf it (by simp)
  exact wpAny_pyNext_enum_end (I.ok.hd hc) he hi p.isList (by simp; omega) fun h' eb=>⟨rfl,I.turned (t':=s.toks) (fun b o hb q=>eb b o hb q) f0 f1 f3 f4 f5⟩
 self:=fun _ _ _ _ _ st h=>by
  obtain⟨⟨old,he⟩,_⟩:=st
  exact JD he h
section
variable {X:Cx}
def Wg (K:PySem.W.Frag) (ta:TA):TI:=fun σ H R=>ta σ H fun vs H1=>∃a,vs=[.ref a]/\(∃xs,dX K H1 a xs)/\R (Y4 K a) H1
theorem JP {K:PySem.W.Frag} {e:Expr} {elts:List Expr} {x1} {tp p pos:Pos} {ta:TA} (hK:X.K=K) (hm:X.mg "enumerate" = none) (ha:PA X [e] ta) (hg:Gl X "enumerate" := by rfl) (h1:cC e=true:=by rfl) :
  PI X (.Tuple elts x1 tp) (.Call (.Name "enumerate" p) [e] [] pos) (Wg K ta):=by
 subst hK
 refine .mk ?_
 intro pins s σ H R I h
 refine rY (iR I hg hm qU ?_ (by decide) (by decide))
 refine PyProof.Rows.callWith_type1 (cQ (ha pos pins s σ H _ I h) fun us s1 ⟨vs,H1,I1,r1,q1⟩=>?_) (cR h1) (cL (es:=[]) rfl)
 obtain⟨a,rfl,⟨xs,hq⟩,q⟩:=q1
 obtain⟨u,rfl,ru⟩:=r1.one
 cases ru
 obtain⟨its,rv,pl,hz⟩:=I1.list hq
 refine call_enumerate_list pl.isList fun h' he hi hsz kk=>?_
 have I2:Inv X pins σ H1 { s1 with heap:=h' }:=I1.kept (t':=s1.toks) kk
 have f1:H1 (s1.heap.objs.size+1)=none:=I1.hok.fresh (Nat.le_succ _)
 have f0:H1 s1.heap.objs.size=none:=I1.hok.fresh (bF _)
 refine JD he ⟨s1.heap.objs.size+1,_,_,Y4 X.K a,H1,rfl,I2,Lg a (s1.heap.objs.size+1) s1.heap.objs.size (Nat.succ_ne_self _),⟨⟨_,he⟩,hi⟩,fun b hb=>?_,q⟩
 rcases b7.mp hb with z | z
 ·rw[z]; exact I1.uq (Nat.le_succ _) f1
 ·rw[fU.mp z]; exact I1.uq (bF _) f0
def EK (K:PySem.W.Frag) (g:TG) (tb:TS) (D:Ends) (σ:St) (vs:List V) (H1:Hp):Prop:=∃a,vs=[.ref a]/\(∃xs,dX K H1 a xs)/\∃W:Nat->Nat->St->Hp->Prop,(∃m,W 0 m σ H1)/\∀i m σ H,W i m σ H ->
 ((Y4 K a).stop i H/\D.nx σ H)\/((Y4 K a).go i H/\∃N:St->Hp->Prop,(∀σ' H',N σ' H'->∃m',m'<m/\W (i+1) m' σ' H')/\∀x H',(Y4 K a).xU i H x H'->g x σ H' fun σ2 H2=>tb { D with nx:=N,ct:=N,bk:=D.nx } σ2 H2)
theorem yP {K:PySem.W.Frag} {ta:TA} {g:TG} {tb:TS} {D:Ends} {σ:St} {H:Hp}:Dw (Wg K ta) g tb D σ H=ta σ H (EK K g tb D σ):=rfl
theorem EK.of {K:PySem.W.Frag} {g:TG} {tb:TS} {D:Ends} {σ:St} {H:Hp} {a:Addr} {xs:List V} (ha:H a=some (.lst xs)) (Pv:Nat->St->Hp->Prop) (h0:Pv 0 σ H) (hl:∀i σ H',i<=xs.length->Pv i σ H'->H' a=some (.lst xs))
  (hs:∀i x σ H p,xs[i]?=some x->Pv i σ H->H p=none->g (.ref p) σ (upd H p (.tup [.int (i:Nat),x])) fun σ2 H2=>tb { D with nx:=Pv (i+1),ct:=Pv (i+1),bk:=D.nx } σ2 H2) (hd:∀σ H,Pv xs.length σ H->D.nx σ H):EK K g tb D σ [.ref a] H:=by
 refine⟨a,rfl,⟨xs,dX.of ha⟩,fun i m σ H=>m=xs.length-i/\i<=xs.length/\Pv i σ H,⟨_,rfl,fQ _,h0⟩,?_⟩
 rintro i m σ H ⟨rfl,hi,p⟩
 have q:dX K H a xs:=dX.of (hl i σ H hi p)
 by_cases hlt:i<xs.length
 ·refine .inr ⟨⟨xs,xs[i],q,fM hlt⟩,Pv (i+1),fun σ' H' p'=>⟨xs.length-(i+1),by omega,rfl,hlt,p'⟩,fun x H' y=>?_⟩
  obtain⟨t,z,ht,rfl,rfl,hz⟩:=y
  exact hs i z σ H t (hz xs q) p ht
 ·have e:i=xs.length:=by omega
  subst e
  exact .inl ⟨⟨xs,q,bF _⟩,hd σ H p⟩
end
theorem zV:∀(l:List Int) (b x:Int),d9 b (l++[x])=if x>d9 b l then x else d9 b l
 | [],b,x=>rfl
 | y::l,b,x=>by
  show d9 (if y>b then y else b) (l++[x])=_
  rw[zV l]; rfl
theorem K4 (val:Nat->Int):∀k,val (argBest (fun i j=>decide (val i>val j)) k)=d9 (val 0) ((List.range k).map fun i=>val (i+1))
 | 0=>rfl
 | k+1=>by
  have ih:=K4 val k
  rw[List.range_succ,jC]
  show val (if decide (val (k+1)>val (argBest _ k))=true then k+1 else argBest _ k)=d9 (val 0) (_++[val (k+1)])
  rw[zV,<- ih]
  by_cases h:val (k+1)>val (argBest (fun i j=>decide (val i>val j)) k)
  ·rw[aL (gC h),aL h]
  ·rw[bB (by rw[gY h]; decide),bB h]
def pairOf:Value->Int×Tok
 | .int i t=>(i,t)
 | _=>(0,0)
theorem pJ:∀{ns:List Int} {us:List Value},Vals (ns.map V.int) us->us.toArray=intItems (us.map pairOf).toArray/\us.map (fun u=>(pairOf u).1)=ns
 | [],_,.nil=>⟨by simp[intItems],rfl⟩
 | n::ns,_,.cons r t=>by
  obtain⟨tk,rfl⟩:=(r:∃tk,_=Value.int n tk)
  obtain⟨h1,h2⟩:=pJ t
  refine⟨?_,by rw[x_,h2]; rfl⟩
  have h1':=gW Array.toList h1
  unfold intItems at h1' ⊢
  apply Array.ext'
  simp at h1' ⊢
  exact⟨⟨rfl,rfl⟩,h1'⟩
section
variable {X:Cx}
theorem Ak (hc:X.calm=true):cT X (.builtin "max") (fun vs H Q=>∃(p:Addr) (b:Int) (r:List Int),vs=[.ref p]/\H p=some (.lst ((b::r).map V.int))/\Q (.int (d9 b r)) H):=by
 refine .mk ?_
 intro pins s σ H vs us Q I r h
 obtain⟨p,b,rs,rfl,hp,q⟩:=h
 obtain⟨u,rfl,ru⟩:=r.one
 cases ru
 obtain⟨_,its,n,rv,e⟩:=I.hok p _ hp
 obtain⟨e1,e2⟩:=pJ rv
 have hl:s.heap.IsList p (intItems (its.map pairOf).toArray):=by rw[<- e1]; exact⟨_,e,rfl,n,rfl⟩
 have hlen:=rv.length
 rw[bR] at hlen
 have na:∀i,numAt (its.map pairOf).toArray i=(b::rs).getD i 0:=fun i=>by
  unfold numAt
  rw[<- e2,fJ]
  simp
  rfl
 refine max_intList (I.ok.hd hc) hl (by simp; rw[<- hlen]; simp) fun v h' tk hv k=>?_
 obtain⟨t,rfl⟩:=intItems_at hv
 refine⟨.int (d9 b rs),H,I.kept (t':=tk) k,⟨t,?_⟩,q⟩
 have:=K4 (numAt (its.map pairOf).toArray) ((its.map pairOf).toArray.size-1)
 rw[this]
 congr 1
 have sz:(its.map pairOf).toArray.size-1=rs.length:=by simp; rw[<- hlen]; simp
 rw[sz,na 0]
 show d9 b _=_
 congr 1
 apply Et
 ·simp
 ·intro i h1 h2
  simp at h1 h2
  rw[List.getElem_map,Ez,na (i+1)]
  simp[fJ,h2]
theorem Al:cT X (.type "list") (fun vs H Q=>∃(p:Addr) (ys:List V),vs=[.ref p]/\H p=some (.lst ys)/\∀l,H l=none->Q (.ref l) (upd H l (.lst ys))):=by
 refine .mk ?_
 intro pins s σ H vs us Q I r h
 obtain⟨p,ys,e,hp,q⟩:=h
 exact qP pins s σ H vs us Q I r ⟨p,ys,e,.inl (dX.of hp),q⟩
theorem mZ {K:PySem.W.Frag} {o e:Expr} {es:List Expr} {to:TE} {t:TA} {name:Str} {apos cpos:Pos} {T id:String} {r:V->List V->Hp->VK->Prop} (hK:X.K=K) (pa:PlainAttrs T) (slot:Slot T name id) (hty:typeOf (.builtin id)=pure (.type "method_descriptor")) (hm:MtR X id r) (ho:PE X o to) (ha:PA X (e::es) t)
  (hbase:attributeBase o name X.env (eval o X.env)=eval o X.env:=by rfl)
  (hfew:((backTo cpos (starEach (e::es) X.env)).all (fun x=>!x.1)&&(backToKw cpos (keywordEach [] X.env)).all (fun x=>x.1.isSome)&&decide ((e::es).length+([]:List Keyword).length+(if([]:List Keyword).isEmpty then 0 else 1)<30))=true:=by rfl)
  (hline:(apos.endLine==cpos.line)=true:=by rfl) (hs:starEach (e::es) X.env=(false,eval e X.env)::starEach es X.env:=by rfl) (hplain:(backTo cpos (starEach es X.env)).any (·.1)=false:=by rfl):PE X (.Call (.Attribute o name apos) (e::es) [] cpos) (tBM K T r to t):=by
 subst hK
 exact Z9 pa slot hty hm ho ha hbase hfew hline hs hplain
end
theorem Hc:isSubtype (.type "range_iterator") (.type "reversed")=pure false:=by rw[isSubtype_type]; kernel_rfl
section
variable {prog:Program} {w:World} {A:Around} {E:Value->Shared->Prop} {s:Shared}
def vG (n:Int):Obj:={ cls:=.type "range_iterator",data:=.fields #[rawInt (n-1),rawInt n,rawInt (-1)] }
theorem xu {r:Addr} {n:Int} {t u v:Tok} {Q:Value->Shared->Prop} (hr:IsRange s.heap r 0 n 1 t u v) (h0:0<=n) (h1:n<2 ^ 62) (h:Q (.ref s.heap.objs.size) { s with heap:=s.heap.push (vG n) }) :
  wpAny (model prog w) A (call (.builtin "range.__reversed__") [.ref r]) Q E s:=by
 have hT:s.TypeIs (.ref r) "range" := ⟨_,hr,rfl⟩
 refine vK PySem.F.slot_range_reversed hT PySem.F.entry_range_reversed ?_ (PySem.F.args_range_reversed_1 _)
 unfold Builtin.«range.__reversed__»
 refine aQ (ud (a:=Value.ref r) rfl ?_)
 have rf:∀{R:Int×Int×Int->Shared->Prop},R (0,n,1) s->wpAny (model prog w) A.in1 (Builtin.Range.rangeFields (.ref r)) R E s:=fun {R} hR=>by
  unfold Builtin.Range.rangeFields
  refine aQ (ji hr rfl (x:=.int 0 t) rfl (aQ (ud (a:=some (0:Int)) rfl ?_)))
  refine aQ (ji hr rfl (x:=.int n u) rfl (aQ (ud (a:=some n) rfl ?_)))
  exact aQ (ji hr rfl (x:=.int 1 v) rfl (aQ (ud (a:=some (1:Int)) rfl (bU hR))))
 refine aQ (rf ?_)
 dsimp only
 have sz:Builtin.Range.rangeSize 0 n 1=n:=by rw[rangeSize_one]; split <;> omega
 rw[sz]
 have sm:(Builtin.Range.rangeFitsLong 0&&Builtin.Range.rangeFitsLong n&&Builtin.Range.rangeFitsLong 1&&Builtin.Range.rangeFitsLong (-1)&&Builtin.Range.rangeFitsLong (0-1)&&Builtin.Range.rangeFitsLong n)=true:=by
  have:Builtin.Range.rangeFitsLong n=true:=by simp only[Builtin.Range.rangeFitsLong,Bx,decide_eq_true_eq]; omega
  rw[this]; decide
 rw[sm]
 simp only[xZ,jk,if_false,if_true]
 have e1:(0+(n-1)*1:Int)=n-1:=by omega
 rw[e1]
 exact aQ (uf (bU ⟨_,rfl,h⟩))
theorem xn {r:Addr} {n:Int} {t u v:Tok} {Q:Value->Shared->Prop} (hr:IsRange s.heap r 0 n 1 t u v) (h0:0<=n) (h1:n<2 ^ 62) (h:Q (.ref s.heap.objs.size) { s with heap:=s.heap.push (vG n) }) :
  codeAny (model prog w) A (.call (.builtin "reversed.__new__") ⟨[.type "reversed",.ref r],[]⟩) (wants Q E) s:=by
 have hT:s.TypeIs (.ref r) "range" := ⟨_,hr,rfl⟩
 refine codeAny_of_tree ?_
 show wpAny _ A.in1 (do checkBuiltinCall "reversed.__new__" ⟨[.type "reversed",.ref r],[]⟩; again (.builtin "reversed.__new__" ⟨[.type "reversed",.ref r],[]⟩)) _ _ s
 refine aQ (ud (F.newCall_reversed_1 (.ref r)) (bU ⟨plainId_quiet F.plain_reversed_new _,codeAny_builtin F.entry_reversed_new ?_⟩))
 rw[Around.under_plainId F.plain_reversed_new _]
 unfold Builtin.«reversed.__new__»
 refine aQ (ud (newClass_reversed (.ref r)) ?_); (try dsimp only)
 refine aQ (ud (a:=()) rfl (aQ (ud (a:=()) rfl ?_)))
 refine aQ (zL hT PySem.F.slot_range_reversed.lookup ?_); (try dsimp only)
 refine aQ (ud (PySem.F.slot_range_reversed.bind _) ?_); (try dsimp only)
 rw[bB (show ¬((Value.builtin "range.__reversed__" == Value.none)=true) from kE)]
 refine aQ (qw (aQ (m:=runValue (.call (.builtin "range.__reversed__") ⟨[.ref r],[]⟩)) (show wpAny _ _ (call (.builtin "range.__reversed__") [.ref r]) _ _ _ from xu hr h0 h1 ?_)))
 first
  | exact bU h
  | exact aQ (bU (bU h))
theorem xr {r:Addr} {n:Int} {t u v:Tok} {Q:Value->Shared->Prop} (hr:IsRange s.heap r 0 n 1 t u v) (h0:0<=n) (h1:n<2 ^ 62) (h:Q (.ref s.heap.objs.size) { s with heap:=s.heap.push (vG n) }) :
  wpAny (model prog w) A (call (.type "reversed") [.ref r]) Q E s:=by
 refine callType_other (U:="range_iterator") (Q₁:=fun obj z=>obj=.ref s.heap.objs.size/\z={ s with heap:=s.heap.push (vG n) }) (by decide +kernel) F.create_reversed ⟨_,_,F.mro_reversed⟩ F.made_reversed Hc (F.typeCall_reversed_1 _) (xn hr h0 h1 ⟨rfl,rfl⟩) ?_
 rintro obj z ⟨rfl,rfl⟩
 exact⟨⟨_,dM _ rfl,rfl⟩,h⟩
end
def Y0 (n:Nat):It:=⟨fun i _=>i<n,fun i H x H'=>H'=H/\x=.int ((n:Int)-1-i),fun i _=>n<=i⟩
theorem O4 {P:Program} {w:World} {K:PySem.W.Frag} {tg:Expr} (it:Addr) (n:Nat):Turn P w K tg (Y0 n) [it] it (fun i h=>IsRangeIter h it ((n:Int)-1+(i:Nat)*(-1)) ((n:Int)-(i:Nat)) (-1)) where
 mem:=by simp
 obj:=fun i h st b hb=>by
  rw[fU.mp hb]
  exact⟨_,st,fun v z=>by
   have z':Data.fields _=Data.cell v:=z
   cases z'⟩
 keep:=fun i h h' st k=>k it (by simp) _ st
 item:=by
  intro X hP hw hK hc i pins s σ H E I hf st hg
  subst hP hw hK
  obtain⟨f0,f1,f2,f3,f4,f5⟩:=hf it (by simp)
  have W:=Walks.range (prog:=X.prog) (w:=X.w) (I.ok.hd hc) it ((n:Int)-1) (-1) n
  refine W.item i s _ _ hg st fun v h' tk hv st' kk=>?_
  obtain⟨t,rfl⟩:=hv
  have I1:Inv X pins σ H { s with heap:=h',toks:=tk }:=I.turned (fun b o hb e=>kk b o (by simpa using hb) e) f0 f1 f3 f4 f5
  refine⟨_,rfl,Kr (s:={ s with heap:=h',toks:=tk }) (n:="range_iterator") st' rfl rfl (by decide) ⟨.int ((n:Int)-1-i),H,I1,⟨t,?_⟩,⟨rfl,rfl⟩,st',fun b hb=>(hf b hb).1⟩⟩
  congr 1
  omega
 done:=by
  intro X hP hw hK hc i pins s σ H E I hf st hg
  subst hP hw hK
  obtain⟨f0,f1,f2,f3,f4,f5⟩:=hf it (by simp)
  exact wpAny_pyNext_range_end (I.ok.hd hc) st (by have:n<=i:=hg; omega) fun h' eb=>⟨rfl,I.turned (t':=s.toks) (fun b o hb e=>eb b o hb e) f0 f1 f3 f4 f5⟩
 self:=fun _ _ _ _ _ st h=>Qs st h
section
variable {X:Cx}
theorem Gr:bootBuiltins "reversed" = some (.type "reversed"):=by decide +kernel
def aau (ta:TA):TI:=fun σ H R=>ta σ H fun vs H1=>∃n:Nat,vs=[.int n]/\n<=1000000/\R (Y0 n) H1
theorem Xn {tg a:Expr} {p p2 pos pos2:Pos} {ta:TA} (hm:X.mg "reversed" = none) (hm2:X.mg "range" = none) (ha:PA X [a] ta) (hg:Gl X "reversed" := by rfl) (hg2:Gl X "range" := by rfl) (h1:cC a=true:=by rfl) :
  PI X tg (.Call (.Name "reversed" p) [.Call (.Name "range" p2) [a] [] pos2] [] pos) (aau ta):=by
 refine .mk ?_
 intro pins s σ H R I h
 refine rY (iR I hg hm Gr ?_ (by decide) (by decide))
 refine PyProof.Rows.callWith_type1 ?_ (cR rfl) (cL (es:=[]) rfl)
 rw[cR (e:=.Call (.Name "range" p2) [a] [] pos2) rfl]
 show wpAny _ _ (spliced ((false,eval (.Call (.Name "range" p2) [a] [] pos2) X.env)::backTo pos (starEach [] X.env))) _ _ s
 refine Calls.spliced_cons ?_
 refine rY (iR I hg2 hm2 Gu ?_ (by decide) (by decide))
 refine PyProof.Rows.callWith_type1 (cQ (ha pos2 pins s σ H _ I h) fun us s1 ⟨vs,H1,I1,r1,n,e,hn,q⟩=>?_) (cR h1) (cL (es:=[]) rfl)
 subst e
 obtain⟨u,rfl,t,rfl⟩:=r1.one
 refine call_range_1 ?_
 refine Calls.spliced_nil ?_
 refine xr (IsRange.new ..) (by omega) (by omega) ?_
 have k2:∀b o,s1.heap.get? b=some o->((s1.heap.push { cls:=.type "range",data:=.fields #[.int 0 s1.toks,.int (n:Int) t,.int 1 (s1.toks+1)] }).push (vG n)).get? b=some o:=fun b o e=>eO _ (eO _ e)
 have I2:=I1.kept (t':=s1.toks+1+1) k2
 generalize hh:s1.heap.push { cls:=.type "range",data:=.fields #[.int 0 s1.toks,.int (n:Int) t,.int 1 (s1.toks+1)] }=h1' at I2 ⊢
 have sz:s1.heap.objs.size<=h1'.objs.size:=by rw[<- hh,jP]; exact Nat.le_succ _
 have st:IsRangeIter (h1'.push (vG n)) h1'.objs.size ((n:Int)-1+((0:Nat):Int)*(-1)) ((n:Int)-((0:Nat):Int)) (-1):=by
  have e1:(n:Int)-1+((0:Nat):Int)*(-1)=(n:Int)-1:=by simp
  have e2:(n:Int)-((0:Nat):Int)=n:=by simp
  rw[e1,e2]
  exact dM _ rfl
 refine Qs (s:={ s1 with heap:=h1'.push (vG n),toks:=s1.toks+1+1 }) (by exact st) ⟨h1'.objs.size,[h1'.objs.size],_,Y0 n,H1,rfl,I2,O4 _ n,st,fun b hb=>?_,q⟩
 rw[fU.mp hb]
 exact I1.uq sz (I1.hok.fresh sz)
def VK' (g:TG) (tb:TS) (D:Ends) (σ:St) (vs:List V) (H1:Hp):Prop:=∃n:Nat,vs=[.int n]/\n<=1000000/\∃W:Nat->Nat->St->Hp->Prop,(∃m,W 0 m σ H1)/\∀i m σ H,W i m σ H ->
 ((Y0 n).stop i H/\D.nx σ H)\/((Y0 n).go i H/\∃N:St->Hp->Prop,(∀σ' H',N σ' H'->∃m',m'<m/\W (i+1) m' σ' H')/\∀x H',(Y0 n).xU i H x H'->g x σ H' fun σ2 H2=>tb { D with nx:=N,ct:=N,bk:=D.nx } σ2 H2)
theorem Pa {ta:TA} {g:TG} {tb:TS} {D:Ends} {σ:St} {H:Hp}:Dw (aau ta) g tb D σ H=ta σ H (VK' g tb D σ):=rfl
theorem VK'.of {g:TG} {tb:TS} {D:Ends} {σ:St} {H:Hp} {n:Nat} {i:Int} (ei:i=n) (hn:n<=1000000) (Pv:Nat->St->Hp->Prop) (h0:Pv 0 σ H)
  (hs:∀i σ H,i<n->Pv i σ H->g (.int ((n:Int)-1-(i:Nat))) σ H fun σ2 H2=>tb { D with nx:=Pv (i+1),ct:=Pv (i+1),bk:=D.nx } σ2 H2) (hd:∀σ H,Pv n σ H->D.nx σ H):VK' g tb D σ [.int i] H:=by
 subst ei
 refine⟨n,rfl,hn,fun i m σ H=>m=n-i/\i<=n/\Pv i σ H,⟨n,rfl,fQ _,h0⟩,?_⟩
 rintro i m σ H ⟨rfl,hi,p⟩
 by_cases hlt:i<n
 ·refine .inr ⟨hlt,Pv (i+1),fun σ' H' p'=>⟨n-(i+1),by omega,rfl,hlt,p'⟩,fun x H' y=>?_⟩
  obtain⟨e1,e2⟩:=y
  subst e1 e2
  exact hs i σ _ hlt p
 ·have e:i=n:=by omega
  subst e
  exact .inl ⟨bF _,hd σ H p⟩
end
structure xR (K:PySem.W.Frag) (x qual:Str) (st:Stmt) (f:Addr) (fd:FuncData) (T:Addr) (i:Int) (t:Tok):Prop where
 ex:∃(oc:Value) (od:Option Addr) (kV doc pm:Value) (an:Option Addr) (cdv ct:Value) (osl:Array (Option Value)),
  fd=PySem.W.fnOf x qual (eN st) (dD st) (aH st) (.ref T) kV doc pm an cdv ct/\K.lookup f=some ⟨oc,od,.func fd,osl⟩/\PySem.W.codeIn K cdv qual=true
 kp:PySem.W.keepIn K (.ref f)=true
 df:∃o n,K.lookup T=some o/\o.data=.seq #[.int i t] n
section
variable {P:Program} {w:World} {K:PySem.W.Frag} {mg:Str->Option Value} {base:Heap}
theorem xR.ok {x qual:Str} {st:Stmt} {f T:Addr} {i:Int} {t:Tok} {fd:FuncData} {N ps:List Str} {k:Nat} {sp:Sp} (F:xR K x qual st f fd T i t) (S:aV N ps (aH st)) (len:∀vs H Q E,sp vs H Q E->vs.length=ps.length)
  (hb:∀(cdv:Value) (A:Around) (outer:List Env) (s:Shared) (H:Hp) (vs:List V) (Q:VK) (E:XK),ir k (A.deeper (envOfC qual (aH st) s.heap.objs.size f cdv))->sp vs H Q E ->
   ∃t,yI (gq iH P w K mg base N qual (aH st) f cdv A outer s H E).YG (dD st) t/\t { nx:=fun _ H'=>Q .non H',rt:=Q } (start N vs) H):bQ P w K mg base iH (k+1) f fd ps sp:=by
 obtain⟨oc,od,kV,doc,pm,an,cdv,ct,osl,rfl,lk,hcd⟩:=F.ex
 exact Wk lk hcd S len fun A outer s H vs Q E hr hsp=>let ⟨t,h,q⟩:=hb cdv A outer s H vs Q E hr hsp; ⟨t,h.YG,q⟩
theorem xR.binds {x qual:Str} {st:Stmt} {f T:Addr} {i:Int} {t:Tok} {fd:FuncData} {ps:List Str} {ds:List Value} (F:xR K x qual st f fd T i t)
  (h:∀(kV doc pm:Value) (an:Option Addr) (cdv ct:Value) (us:List Value),(us++ds).length=ps.length->∃k,bindArgs (PySem.W.fnOf x qual (eN st) (dD st) (aH st) (.ref T) kV doc pm an cdv ct) ⟨us,[]⟩=seqItems? (.ref T) >>= k/\k (some #[.int i t])=pure (ps.zip (us++ds))):Binds K fd ps ds:=by
 obtain⟨oc,od,kV,doc,pm,an,cdv,ct,osl,rfl,lk,hcd⟩:=F.ex
 obtain⟨o,n,ho,hd⟩:=F.df
 intro s us KX hl
 obtain⟨k,h1,h2⟩:=h kV doc pm an cdv ct us hl
 exact BindsTo.of_defaults rfl (KX _ _ ho) hd h1 h2
end
structure YC (P:Program) (w:World) (K:PySem.W.Frag) (mg:Str->Option Value) (base:Heap) (k:Nat) (x:Str) (ps:List Str) (i:Int) (sp:Sp) where
 f:Addr
 fd:FuncData
 t:Tok
 G:bQ P w K mg base iH k f fd ps sp
 kp:PySem.W.keepIn K (.ref f)=true
 b:Binds K fd ps []
 bd:Binds K fd ps [.int i t]
 m:mg x=some (.ref f)
def YC.mono {P:Program} {w:World} {K:PySem.W.Frag} {mg:Str->Option Value} {base:Heap} {j k:Nat} {x:Str} {ps:List Str} {i:Int} {sp:Sp} (c:YC P w K mg base j x ps i sp) (h:j<=k):YC P w K mg base k x ps i sp:={ c with G:=c.G.mono h }
section
variable {X:Cx} {x:Str} {p pos:Pos} {e:Expr} {es:List Expr} {t:TA}
theorem pfd {k:Nat} {ps:List Str} {i:Int} {sp:Sp} (c:YC X.prog X.w X.K X.mg X.base k x ps i sp) (hr:ir k X.A) (ha:PA X (e::es) t) (hg:Gl X x:=by rfl) (hdb:(x==("__debug__" : Str))=false:=by decide) (h1:cC e=true:=by rfl) (h2:es.all cC=true:=by rfl) :
  PE X (.Call (.Name x p) (e::es) [] pos) (pW sp [.int i] E0 t):=JV c.G hr hg c.m c.kp c.bd (.cons ⟨_,rfl⟩ .nil) Wa ha hdb (cR h1) (cL h2)
end
section
variable {X:Cx}
end
def LK (K:PySem.W.Frag) (g:TG) (tb:TS) (D:Ends) (σ:St) (x:V) (H1:Hp):Prop:=∃a,x=.ref a/\(∃xs,dX K H1 a xs)/\∃W:Nat->Nat->St->Hp->Prop,(∃m,W 0 m σ H1)/\∀i m σ H,W i m σ H ->
 ((Wu K a).stop i H/\D.nx σ H)\/((Wu K a).go i H/\∃N:St->Hp->Prop,(∀σ' H',N σ' H'->∃m',m'<m/\W (i+1) m' σ' H')/\∀x H',(Wu K a).xU i H x H'->g x σ H' fun σ2 H2=>tb { D with nx:=N,ct:=N,bk:=D.nx } σ2 H2)
theorem Pb {K:PySem.W.Frag} {tl:TE} {g:TG} {tb:TS} {D:Ends} {σ:St} {H:Hp}:Dw (wQ K tl) g tb D σ H=tl σ H (LK K g tb D σ):=rfl
theorem LK.of {K:PySem.W.Frag} {g:TG} {tb:TS} {D:Ends} {σ:St} {H:Hp} {a:Addr} {xs:List V} (ha:H a=some (.lst xs)) (Pv:Nat->St->Hp->Prop) (h0:Pv 0 σ H) (hl:∀i σ H',i<=xs.length->Pv i σ H'->H' a=some (.lst xs))
  (hs:∀i x σ H,xs[i]?=some x->Pv i σ H->g x σ H fun σ2 H2=>tb { D with nx:=Pv (i+1),ct:=Pv (i+1),bk:=D.nx } σ2 H2) (hd:∀σ H,Pv xs.length σ H->D.nx σ H):LK K g tb D σ (.ref a) H:=
 ⟨a,rfl,⟨xs,dX.of ha⟩,Ry (xs:=xs) Pv h0 (fun i σ H' hi p=>dX.of (hl i σ H' hi p)) hs hd⟩
end L2
namespace L2
open PySem
mutual
def uD:PyData->Bool
 | .tuple ds=>bM ds
 | .list _=>false
 | .dict _=>false
 | .none=>true
 | .bool _=>true
 | .int _=>true
 | .str _=>true
def bM:List PyData->Bool
 | []=>true
 | d::ds=>uD d&&bM ds
end
theorem dw:∀{ds:List PyData},bM ds=true↔∀d∈ds,uD d=true
 | []=>by simp[bM]
 | d::ds=>by
  have ih:=dw (ds:=ds)
  simp only[bM,Bx,ih,b7,forall_eq_or_imp]
mutual
theorem At.sH {G:Hp} {p:Addr} {xs:List V} (hp:G p=some (.lst xs)):∀(d:PyData) (v:V),uD d=true->At G d v->At (hid p G) d v
 | .none,_,_,h=>by unfold At at h ⊢; exact h
 | .bool _,_,_,h=>by unfold At at h ⊢; exact h
 | .int _,_,_,h=>by unfold At at h ⊢; exact h
 | .str _,_,_,h=>by unfold At at h ⊢; exact h
 | .tuple ds,v,n,h=>by
  unfold At at h ⊢
  obtain⟨a,ys,e,h1,h2⟩:=h
  refine⟨a,ys,e,?_,ak.sH hp ds ys (by simpa[uD] using n) h2⟩
  rw[bV (fun z=>by subst z; rw[hp] at h1; cases h1)]; exact h1
 | .list _,_,n,_=>by simp[uD] at n
 | .dict _,_,n,_=>by simp[uD] at n
theorem ak.sH {G:Hp} {p:Addr} {xs:List V} (hp:G p=some (.lst xs)):∀(ds:List PyData) (ys:List V),bM ds=true->ak G ds ys->ak (hid p G) ds ys
 | [],_,_,h=>by unfold ak at h ⊢; exact h
 | d::ds,ys,n,h=>by
  unfold ak at h ⊢
  obtain⟨x,r,e,h1,h2⟩:=h
  have n':uD d=true/\bM ds=true:=by simpa[bM] using n
  exact⟨x,r,e,At.sH hp d x n'.1 h1,ak.sH hp ds r n'.2 h2⟩
end
theorem Bl:∀l:List Int,(∀c∈l,0<=c)->0<=l.sum
 | [],_=>by simp
 | x::l,h=>by rw[Er]; have:=Bl l fun c hc=>h c (iM _ hc); have:=h x jl; omega
theorem z_:∀ws:List Int,PyData.hasDictAll (ws.map .int)=false/\PyData.canLayAll0 (ws.map .int)=true/\PyData.depthAll (ws.map .int)=0
 | []=>⟨rfl,rfl,rfl⟩
 | w::ws=>by
  obtain⟨h1,h2,h3⟩:=z_ ws
  refine⟨?_,?_,?_⟩
  ·show(PyData.hasDict (.int w) || PyData.hasDictAll (ws.map .int))=false
   rw[h1]; rfl
  ·show(PyData.canLay0 (.int w)&&PyData.canLayAll0 (ws.map .int))=true
   rw[h2]; rfl
  ·show max (PyData.depth (.int w)) (PyData.depthAll (ws.map .int))=0
   rw[h3]; rfl
theorem Uy {xs ys:List V} {p q:Addr} {H:Hp} {Q:VK} (e:H p=some (.lst xs)) (e2:H q=some (.tup ys)) (z:xs.length+ys.length<=sizeLine) (k:∀r H',aF H H'->H' r=some (.lst (xs++ys))->Q (.ref r) H') :
  ∃p_2 ys',[V.ref q]=[V.ref p_2]/\H p_2=some (.tup ys')/\∀l,H l=none->Ed (.ref p) (.ref l) (upd H l (.lst ys')) Q:=by
 refine⟨q,ys,rfl,e2,fun l hl=>?_⟩
 have s1:=aK hl (HO.lst ys)
 refine⟨p,l,xs,ys,rfl,rfl,s1 _ _ e,az,z,fun r hr=>?_⟩
 exact k r _ (s1.trans (aK hr _)) az
theorem take_snoc {α:Type} {l:List α} {i:Nat} {c:α} (h:l[i]?=some c):l.take (i+1)=l.take i++[c]:=by
 obtain⟨hi,e⟩:=iQ.mp h
 rw[List.take_succ_eq_append_getElem hi,e]
theorem SX.same {p:Addr} {H H':Hp} (hp:H p=none) (s:SX p H H'):aF H H':=fun b o h=>by
 have hb:b≠p:=fun z=>by rw[z,hp] at h; cases h
 exact s.get hb h
theorem zQ {ts:List Str} {i:Int} (h0:0<=i) (h1:i<ts.length):∃t,t∈ts/\Dq (ts.map V.str) i=some (.str t):=by
 have hi:i.toNat<ts.length:=by omega
 refine⟨ts[i.toNat],BJ hi,?_⟩
 have:=bx (xs:=ts.map V.str) (j:=i.toNat) (v:=.str ts[i.toNat]) (by rw[gM,fM hi]; rfl)
 rwa [show((i.toNat:Nat):Int)=i by omega] at this
theorem jf {ts:List Int} {i:Int} (h0:0<=i) (h1:i<ts.length):∃t,t∈ts/\Dq (ts.map V.int) i=some (.int t):=by
 have hi:i.toNat<ts.length:=by omega
 refine⟨ts[i.toNat],BJ hi,?_⟩
 have:=bx (xs:=ts.map V.int) (j:=i.toNat) (v:=.int ts[i.toNat]) (by rw[gM,fM hi]; rfl)
 rwa [show((i.toNat:Nat):Int)=i by omega] at this
def d8 (a b:TS):TS:=Bj a b
theorem Js (i:Nat) {e:TE} {b:TS}:Bj (xW e (dG i)) b=d8 (xW e (dG i)) b:=rfl
theorem Qe {c:TT} {x y b:TS}:Bj (Th c x y) b=d8 (Th c x y) b:=rfl
theorem d8.of {a b:TS} {D:Ends} {σ:St} {H:Hp} (R:St->Hp->Prop) (hR:∀σ' H',R σ' H'->b D σ' H') (h:∀N:St->Hp->Prop,(∀σ' H',R σ' H'->N σ' H')->a { D with nx:=N } σ H):d8 a b D σ H:=h _ hR
theorem d8.on {a b:TS} {D:Ends} {σ:St} {H:Hp} (hR:∀H',aF H H'->b D σ H') (h:∀N:St->Hp->Prop,(∀H',aF H H'->N σ H')->a { D with nx:=N } σ H):d8 a b D σ H:=
 d8.of (fun σ' H'=>σ'=σ/\aF H H') (fun σ' H' z=>by rw[z.1]; exact hR H' z.2) fun N hN=>h N fun H' s=>hN _ _ ⟨rfl,s⟩
theorem M7 {α:Type} {l:List α} (h:l.length=3):∃a b c,l=[a,b,c]:=by
 match l,h with
 | [a,b,c],_=>exact⟨a,b,c,rfl⟩
theorem Q8 {α:Type} {l:List α} (h:l.length=5):∃a b c d e,l=[a,b,c,d,e]:=by
 match l,h with
 | [a,b,c,d,e],_=>exact⟨a,b,c,d,e,rfl⟩
theorem aF.d7 {H H':Hp} {p:Addr} {o:HO} (s:aF H H') (hp:H p=none):aF H (upd H' p o):=fun b u h=>by rw[aP (bN h hp)]; exact s _ _ h
theorem Vf {xs:List V} {l h:Nat} (lh:l<=h) (hx:h<=xs.length):mj xs (some (l:Int)) (some (h:Int))=(xs.take h).drop l:=by
 unfold mj
 rw[HT.nO,HT.nO,zH hx,zH (by omega),List.drop_take]
def zY:PyData->Bool
 | .list _=>true
 | _=>false
theorem Kc (K:PySem.W.Frag) (d:PyData):PySem.W.kitOne K (.type (Sd d)) (.type "list")=some (zY d):=by cases d <;> kernel_rfl
theorem Kl {X:Cx}:cT X (.builtin "isinstance") (Hr "list" zY):=wL Kc
theorem jo {ds:List PyData} (h:bM ds=true) {i:Nat} {d:PyData} (e:ds[i]?=some d):uD d=true:=dw.mp h d (jm e)
theorem KJ {K:PySem.W.Frag} {js:List Nat} {a:Addr} {xs:List V} {es:List PyData} {tl te:TE} {σ:St} {H:Hp} {Q:VK} (hl:∀R:VK,R (.ref a) H->tl σ H R) (ha:H a=some (.lst xs)) (hn:es.length=xs.length) (hz:es.length<=sizeLine) (hL:bM es=true)
  (step:∀(i:Nat) x e H',xs[i]?=some x->es[i]?=some e->aF H H'->∀R:VK,(∀v cZ,aF H' cZ->At cZ e v->R v cZ)->te (some x::bW js σ) H' R)
  (fin:∀acc ys H',aF H H'->H acc=none->H' acc=some (.lst ys)->ak (hid acc H') es ys->Q (.ref acc) H'):gK js (wQ K tl) te σ H Q:=by
 refine hl _ ⟨a,rfl,⟨xs,dX.of ha⟩,fun acc hacc=>?_⟩
 refine⟨fun i m ys H2=>m=es.length-i/\i<=es.length/\ak (hid acc H2) (es.take i) ys/\aF H H2/\H2 acc=some (.lst ys),⟨_,rfl,fQ _,ak.nil,aK hacc _,az⟩,?_⟩
 rintro i m ys H2 ⟨rfl,hi,hA,sm,hy⟩
 have ht:dX K H2 a xs:=dX.of (sm _ _ ha)
 by_cases hlt:i<es.length
 ·refine .inr ⟨⟨xs,xs[i]'(by omega),ht,fM (by omega)⟩,fun x H3 y=>?_⟩
  obtain⟨e,y⟩:=y
  subst e
  have e1:es[i]?=some es[i]:=fM hlt
  refine step i x _ _ (y xs ht) e1 sm _ fun v H4 s4 a4=>⟨s4 _ _ hy,?_,es.length-(i+1),by omega,rfl,hlt,?_,?_,az⟩
  ·rw[hA.length,jj]; omega
  ·rw[gF,Bw,e1]
   exact ak.append (hA.mono (aF.hid s4)) (ak.cons (At.sH (s4 _ _ hy) _ _ (jo hL e1) a4) ak.nil)
  ·refine fun b o q=>?_
   have nb:b≠acc:=bN q hacc
   rw[aP nb]
   exact s4 _ _ (sm _ _ q)
 ·have e:i=es.length:=by omega
  subst e
  rw[pC] at hA
  exact .inl ⟨⟨xs,ht,by omega⟩,fin _ _ _ sm hacc hy hA⟩
end L2
namespace L2
open PySem PySem.Spec PyProof.Rows
def jE:Int->List Int->Int
 | b,[]=>b
 | b,x::l=>jE (if x<b then x else b) l
theorem zT:∀(l:List Int) (b x:Int),jE b (l++[x])=if x<jE b l then x else jE b l
 | [],b,x=>rfl
 | y::l,b,x=>by
  show jE (if y<b then y else b) (l++[x])=_
  rw[zT l]; rfl
theorem K3 (val:Nat->Int):∀k,val (argBest (fun i j=>decide (val i<val j)) k)=jE (val 0) ((List.range k).map fun i=>val (i+1))
 | 0=>rfl
 | k+1=>by
  have ih:=K3 val k
  rw[List.range_succ,jC]
  show val (if decide (val (k+1)<val (argBest _ k))=true then k+1 else argBest _ k)=jE (val 0) (_++[val (k+1)])
  rw[zT,<- ih]
  by_cases h:val (k+1)<val (argBest (fun i j=>decide (val i<val j)) k)
  ·rw[aL (gC h),aL h]
  ·rw[bB (by rw[gY h]; decide),bB h]
section
variable {X:Cx}
theorem Aj (hc:X.calm=true):cT X (.builtin "min") (fun vs H Q=>∃(p:Addr) (b:Int) (r:List Int),vs=[.ref p]/\H p=some (.lst ((b::r).map V.int))/\Q (.int (jE b r)) H):=by
 refine .mk ?_
 intro pins s σ H vs us Q I r h
 obtain⟨p,b,rs,rfl,hp,q⟩:=h
 obtain⟨u,rfl,ru⟩:=r.one
 cases ru
 obtain⟨_,its,n,rv,e⟩:=I.hok p _ hp
 obtain⟨e1,e2⟩:=pJ rv
 have hl:s.heap.IsList p (intItems (its.map pairOf).toArray):=by rw[<- e1]; exact⟨_,e,rfl,n,rfl⟩
 have hlen:=rv.length
 rw[bR] at hlen
 have na:∀i,numAt (its.map pairOf).toArray i=(b::rs).getD i 0:=fun i=>by
  unfold numAt
  rw[<- e2,fJ]
  simp
  rfl
 refine min_intList (I.ok.hd hc) hl (by simp; rw[<- hlen]; simp) fun v h' tk hv k=>?_
 obtain⟨t,rfl⟩:=intItems_at hv
 refine⟨.int (jE b rs),H,I.kept (t':=tk) k,⟨t,?_⟩,q⟩
 have:=K3 (numAt (its.map pairOf).toArray) ((its.map pairOf).toArray.size-1)
 rw[this]
 congr 1
 have sz:(its.map pairOf).toArray.size-1=rs.length:=by simp; rw[<- hlen]; simp
 rw[sz,na 0]
 show jE b _=_
 congr 1
 apply Et
 ·simp
 ·intro i h1 h2
  simp at h1 h2
  rw[List.getElem_map,Ez,na (i+1)]
  simp[fJ,h2]
end
structure j6 (X:Cx) (nt:Nat) (N':List Str) (js:List Nat) (sc:Scope):Prop where
 kind:sc.kind=.function
 h_:∀y∈sc.names,y.2≠.cell
 names:∀y∈sc.names,y.2=.local->sc.names.lookup y.1=some .local
 clos:closureFor sc X.env=pure (pM sc X.env)
 all:(sc.names.all fun y=>y.2 != .free || (X.env.cells.lookup y.1).isSome)=true
 len:N'.length=nt+js.length
 cap:∀(i j:Nat),js[i]?=some j->N'[nt+i]?=X.N[j]?
 RT:∀y∈N'.drop nt,X.env.kindOf y=some .cell/\sc.names.lookup y=some .free
theorem xq:∀(names:List (Str×NameKind)) (h:Heap) (acc:List (Str×Addr)) (x:Str) (c:Addr),(cellsFrom h.objs.size names acc).lookup x=some c->((pushCells h names).IsCell c none/\h.objs.size<=c)\/(acc.lookup x=some c/\(x,NameKind.cell)∉names)
 | [],h,acc,x,c,e=>.inr ⟨e,by simp⟩
 | (name,kind)::r,h,acc,x,c,e=>by
  unfold cellsFrom at e
  unfold pushCells
  split at e
  ·rename_i hk
   have hk':kind=.cell:=by simpa using hk
   rw[aL hk]
   have:=xq r (h.push { cls:=.type "cell",data:=.cell none }) ((name,h.objs.size)::acc) x c (by rw[jP]; exact e)
   rw[jP] at this
   rcases this with⟨z,z'⟩ | ⟨z,z'⟩
   ·exact .inl ⟨z,by omega⟩
   ·rw[rT] at z
    cases hx:x==name with
    | true=>
     rw[hx] at z
     cases z
     refine .inl ⟨?_,bF _⟩
     exact⟨_,pushCells_keeps r _ _ _ (dM _ rfl),rfl⟩
    | false=>
     rw[hx] at z
     refine .inr ⟨z,fun m=>?_⟩
     rcases b7.mp m with q | q
     ·have:x=name:=(Prod.mk.inj q).1
      simp[this] at hx
     ·exact z' q
  ·rename_i hk
   rw[bB hk]
   rcases xq r h acc x c e with z | ⟨z,z'⟩
   ·exact .inl z
   ·refine .inr ⟨z,fun m=>?_⟩
    rcases b7.mp m with q | q
    ·exact hk (by rw[<- (Prod.mk.inj q).2]; rfl)
    ·exact z' q
theorem Ip:∀(names:List (Str×NameKind)) (n:Nat) (acc:List (Str×Addr)),(∀x y c,acc.lookup x=some c->acc.lookup y=some c->x=y)->(∀x c,acc.lookup x=some c->c<n) ->
  (∀x y c,(cellsFrom n names acc).lookup x=some c->(cellsFrom n names acc).lookup y=some c->x=y)/\True
 | [],n,acc,h,_=>⟨h,trivial⟩
 | (name,kind)::r,n,acc,h,hb=>by
  unfold cellsFrom
  split
  ·refine Ip r (n+1) ((name,n)::acc) (fun x y c e1 e2=>?_) (fun x c e=>?_)
   ·rw[rT] at e1 e2
    cases hx:x==name with
    | true=>
     rw[hx] at e1
     cases e1
     cases hy:y==name with
     | true=>rw[beq_iff_eq.mp hx,beq_iff_eq.mp hy]
     | false=>rw[hy] at e2; exact absurd (hb _ _ e2) (rP _)
    | false=>
     rw[hx] at e1
     cases hy:y==name with
     | true=>rw[hy] at e2; cases e2; exact absurd (hb _ _ e1) (rP _)
     | false=>rw[hy] at e2; exact h x y c e1 e2
   ·rw[rT] at e
    cases hx:x==name with
    | true=>rw[hx] at e; cases e; exact Eu _
    | false=>rw[hx] at e; exact zN (hb _ _ e)
  ·exact Ip r n acc h hb
theorem Ir {x:Str}:∀(names:List (Str×NameKind)) (n:Nat) (acc:List (Str×Addr)),((x,NameKind.cell)∈names\/(acc.lookup x).isSome=true)->((cellsFrom n names acc).lookup x).isSome=true
 | [],n,acc,h=>by
  rcases h with h | h
  ·simp at h
  ·exact h
 | (name,kind)::r,n,acc,h=>by
  unfold cellsFrom
  split
  ·rename_i hk
   refine Ir r (n+1) _ ?_
   rcases h with h | h
   ·rcases b7.mp h with q | q
    ·refine .inr ?_
     rw[rT,(Prod.mk.inj q).1]
     simp
    ·exact .inl q
   ·refine .inr ?_
    rw[rT]
    split
    ·rfl
    ·exact h
  ·rename_i hk
   refine Ir r n acc ?_
   rcases h with h | h
   ·rcases b7.mp h with q | q
    ·exact absurd (by rw[<- (Prod.mk.inj q).2]; rfl) hk
    ·exact .inl q
   ·exact .inr h
theorem CZ {x:Str} {c:Addr}:∀(names:List (Str×NameKind)) (n:Nat) (acc:List (Str×Addr)),(x,NameKind.cell)∉names->acc.lookup x=some c->(cellsFrom n names acc).lookup x=some c
 | [],n,acc,_,e=>e
 | (name,kind)::r,n,acc,h,e=>by
  unfold cellsFrom
  split
  ·rename_i hk
   refine CZ r (n+1) _ (fun m=>h (iM _ m)) ?_
   rw[rT]
   cases hx:x==name with
   | true=>
    have hk':kind=.cell:=by simpa using hk
    exact absurd (by rw[beq_iff_eq.mp hx,hk']; exact jl) h
   | false=>exact e
  ·exact CZ r n acc (fun m=>h (iM _ m)) e
theorem xV {M:Model} {A:Around} {E:Value->Shared->Prop} {s:Shared} {scope:Scope} {globals:Addr} {cl:List (Str×Addr)} {qual:Str} {env:Env} {Q:Env->Shared->Prop}
  (hQ:Q { scope,locals:=s.heap.objs.size,globals,cells:=cellsFrom (s.heap.objs.size+1) scope.names cl,qual,func:=none,code:=env.code,frame:=env.frame,builtins:=env.builtins } { s with heap:=pushCells (s.heap.push { cls:=.type "dict",data:=.dict #[] }) scope.names }) :
  wpAny M A (newFunctionEnv scope globals cl [] qual none .none (some env)) Q E s:=by
 simp only[newFunctionEnv,Option.isSome_some,if_true]
 refine aQ (wpAny_alloc ?_)
 refine aQ (wpAny_layCells _ (fun name kind cells=>by cases hkc:kind==NameKind.cell <;> simp[hkc]) _ _ _ _ ?_)
 rw[show({ s with heap:=s.heap.push { cls:=.type "dict",data:=.dict #[] } }:Shared).heap.objs.size=s.heap.objs.size+1 from jP ..]
 simp only[List.forIn_nil]
 exact aQ (bU (bU hQ))
def CN (X:Cx) (N':List Str) (sc:Scope) (fp:List Addr) (s:Shared) (H:Hp):Cx where
 prog:=X.prog
 w:=X.w
 K:=X.K
 mg:=X.mg
 base:=X.base
 A:=X.A
 N:=N'
 s₀:=s
 H₀:=H
 env:=compEnvC sc (cellsFrom (s.heap.objs.size+1) sc.names (pM sc X.env)) s.heap.objs.size X.env
 outer:=X.stack
 stack:=X.stack
 ex:=fp
 fn:=fun y=>sc.names.lookup y==some .cell
 calm:=X.calm
 pn:=[]
 xe:=fun _ _=>False
structure R9 (X:Cx) (nt:Nat) (N':List Str) (js:List Nat) (sc:Scope):Prop where
 kind:sc.kind=.function
 cells:∀y∈sc.names,y.2=.cell->sc.names.lookup y.1=some .cell
 names:∀y∈sc.names,y.2=.local->sc.names.lookup y.1=some .local
 clos:closureFor sc X.env=pure (pM sc X.env)
 all:(sc.names.all fun y=>y.2 != .free || (X.env.cells.lookup y.1).isSome)=true
 len:N'.length=nt+js.length
 cap:∀(i j:Nat),js[i]?=some j->N'[nt+i]?=X.N[j]?
 RT:∀y∈N'.drop nt,X.env.kindOf y=some .cell/\sc.names.lookup y=some .free
theorem z7 {X:Cx} {pins:List (Addr×Obj)} {σ:St} {H:Hp} {s:Shared} {fp:List Addr} {N':List Str} {js:List Nat} {sc:Scope} {nt:Nat} {h1:Heap} {tk:Nat} (I:Inv X pins σ H s) (hf:∀b∈fp,gG X pins H b) (hlt:∀b∈fp,b<s.heap.objs.size)
  (S:R9 X nt N' js sc) (C_:∀{x:Str} {c:Addr},(cellsFrom (s.heap.objs.size+1) sc.names (pM sc X.env)).lookup x=some c->(h1.IsCell c none/\s.heap.objs.size<c)\/((pM sc X.env).lookup x=some c/\(x,NameKind.cell)∉sc.names)) (hn:h1.Ns s.heap.objs.size fun _=>none) (hk:∀b o,s.heap.get? b=some o->h1.get? b=some o):Inv (CN X N' sc fp s H) [] (List.replicate nt none++bW js σ) H { s with heap:=h1,toks:=tk }:=by
 have old:∀x c,(pM sc X.env).lookup x=some c->c<s.heap.objs.size+1:=fun x c e=>by
  obtain⟨v,o,ho,_⟩:=I.cell x c (ig e)
  exact zN (b_ ho)
 refine⟨⟨I.ok.mod,S.kind,I.ok.glob,I.ok.blt,bF _,fun x y c e1 e2=>(Ip sc.names _ _ (fun x y c e1 e2=>I.ok.inj x y c (ig e1) (ig e2)) old).1 x y c e1 e2,fun x hx=>?_,fun x c hf' e=>(by
   rcases C_ e with z | ⟨_,z⟩
   ·exact jB z.2
   ·exact absurd (PySem.mem_of_lookup (show sc.names.lookup x=some .cell from by simpa using(show(sc.names.lookup x==some NameKind.cell)=true from hf'))) z),I.ok.hd,I.ok.frames,.inl rfl,fun b hb=>⟨fK (hlt b hb),fun x c e=>(by
   rcases C_ e with z | ⟨z,_⟩
   ·exact Eo (Nat.lt_trans (hlt b hb) z.2)
   ·exact(hf b hb).2.2.2.2.1 x c (ig z))⟩,I.bs,
  oG I.ok.Om I.sz,fun b o e hb=>?_,fun b hb z=>?_,I.stack,I.uy⟩,rfl,I.bare,Un.kept hk,⟨fun _=>none,hn,fun i x v e1 e2 e3=>?_⟩,fun x c e=>?_,I.hok.fresh (bF _),fun x c e=>(by
   rcases C_ e with z | ⟨z,_⟩
   ·exact I.hok.fresh (jB z.2)
   ·exact I.kY x c (ig z)),fun p hp=>absurd (show p∈([]:List (Addr×Obj)) from hp) (by simp),I.hok.kept hk,?_⟩
 ·refine Hv.mp (Ir sc.names _ _ ?_)
  have hx':(relabel sc X.env).names.lookup x=some .cell\/(relabel sc X.env).names.lookup x=some .free:=hx
  have key:(x,NameKind.cell)∈sc.names\/(x,NameKind.free)∈sc.names:=by
   rcases hx' with q | q
   ·obtain⟨k,hm,e | ⟨e,_⟩⟩:=tQ q
    ·rw[<- e] at hm; exact .inl hm
    ·refine .inr ?_; rw[<- e]; exact hm
   ·refine .inr ?_
    obtain⟨k,hm,e | ⟨e,_⟩⟩:=tQ q
    ·rw[e]; exact hm
    ·rw[<- e]; exact hm
  rcases key with key | key
  ·exact .inl key
  have a:=ue.mp S.all _ key
  have a':(X.env.cells.lookup x).isSome=true:=by simpa using a
  obtain⟨c,hc⟩:=Hv.mp a'
  exact .inr (Hv.mpr ⟨c,Io hc sc.names [] key⟩)
 ·rcases(hf b hb).2.2.2.1 with z | z
  ·exact I.ok.Fp b o e z
  ·exact absurd (kI (b_ e) (oG I.ok.Om z)) (rP _)
 ·rcases b7.mp (I.Hd b z) with q | q
  ·exact(hf b hb).2.1 q
  ·exact(hf b hb).2.2.1 q
 ·by_cases hlt:i<nt
  ·rw[BL (by rw[BK]; exact hlt),Qt,aL hlt] at e2
   cases e2
  ·obtain⟨i',rfl⟩:∃i',i=nt+i':=⟨i-nt,by omega⟩
   rw[vM (by rw[BK]; omega),BK,Nat.add_sub_cancel_left] at e2
   have e2':(bW js σ)[i']?=some (some v):=e2
   unfold bW at e2'
   rw[gM] at e2'
   cases hj:js[i']? with
   | none=>rw[hj] at e2'; simp at e2'
   | some j=>
    rw[hj] at e2'
    have e4:(σ[j]?).join=some v:=by simpa using e2'
    have e5:σ[j]?=some (some v):=by
     cases q:σ[j]? with
     | none=>rw[q] at e4; simp at e4
     | some z=>rw[q] at e4; simp at e4; rw[e4]
    have e6:X.N[j]?=some x:=by rw[<- S.cap i' j hj]; exact e1
    have mem:x∈N'.drop nt:=by
     have e1':N'[nt+i']?=some x:=e1
     exact jm (i:=i') (by rw[Ey]; exact e1')
    obtain⟨k1,k2⟩:=S.RT x mem
    obtain⟨m,_,hl⟩:=I.loc
    obtain⟨u,r,l⟩:=hl j x v e6 e5 (.inr (.inl k1))
    refine⟨u,r,.inr ⟨.inl (qt I.ok.kind k1 sc.names k2),?_⟩⟩
    rcases l with⟨z,_⟩ | ⟨_,c,hc,hcell⟩
    ·rw[k1] at z; cases z
    ·obtain⟨o,ho,hd⟩:=hcell
     exact⟨c,CZ sc.names _ _ (fun z=>by have:=S.cells _ z rfl; rw[k2] at this; cases this) (Io hc sc.names [] (PySem.mem_of_lookup k2)),o,hk c o ho,hd⟩
 ·rcases C_ e with z | ⟨z,_⟩
  ·exact⟨none,z.1⟩
  ·obtain⟨v,o,ho,hd⟩:=I.cell x c (ig z)
   exact⟨v,o,hk c o ho,hd⟩
 ·show(List.replicate nt none++bW js σ).length=N'.length
  rw[S.len]; simp[bW]
theorem CV:∀{names:List (Str×NameKind)} {n:Nat} {acc:List (Str×Addr)},(∀y∈names,y.2≠.cell)->cellsFrom n names acc=acc
 | [],_,_,_=>rfl
 | (name,kind)::r,n,acc,h=>by
  unfold cellsFrom
  rw[bB (fun z=>h _ jl (by simpa using z))]
  exact CV fun y hy=>h y (iM _ hy)
theorem w6 {X:Cx} {N':List Str} {sc:Scope} {fp:List Addr} {s:Shared} {H:Hp} (h:∀y∈sc.names,y.2≠.cell):pK X N' sc fp s H=CN X N' sc fp s H:=by
 have e:(fun _:Str=>false)=fun y=>sc.names.lookup y==some .cell:=funext fun y=>by
  cases z:sc.names.lookup y==some NameKind.cell with
  | false=>rfl
  | true=>exact absurd rfl (h _ (PySem.mem_of_lookup (by simpa using z)))
 unfold pK CN
 rw[CV h,e]
theorem j6.toD {X:Cx} {nt:Nat} {N':List Str} {js:List Nat} {sc:Scope} (S:j6 X nt N' js sc):R9 X nt N' js sc:=⟨S.kind,fun y hy e=>absurd e (S.h_ y hy),S.names,S.clos,S.all,S.len,S.cap,S.RT⟩
theorem Ng {X:Cx} {pins:List (Addr×Obj)} {σ:St} {H:Hp} {s:Shared} {fp:List Addr} {N':List Str} {js:List Nat} {sc:Scope} {nt:Nat} {h1:Heap} {tk:Nat} (I:Inv X pins σ H s) (hf:∀b∈fp,gG X pins H b) (hlt:∀b∈fp,b<s.heap.objs.size)
  (S:j6 X nt N' js sc) (hn:h1.Ns s.heap.objs.size fun _=>none) (hk:∀b o,s.heap.get? b=some o->h1.get? b=some o):Inv (pK X N' sc fp s H) [] (List.replicate nt none++bW js σ) H { s with heap:=h1,toks:=tk }:=by
 rw[w6 S.h_]
 exact z7 I hf hlt S.toD (fun {x c} e=>by rw[CV S.h_] at e; exact .inr ⟨e,fun z=>S.h_ _ z rfl⟩) hn hk
structure Dk (X:Cx) (ifs:List Expr) (t:TT):Prop where
 mk ::
 go:∀(pins:List (Addr×Obj)) (s:Shared) (σ:St) (H:Hp) (Q:Bool->Hp->Prop),Inv X pins σ H s->t σ H Q->wpAny (model X.prog X.w) X.A (forIn ifs true fun c r=>if r=true then do let ok <- isTrue c X.env (eval c X.env); pure (ForInStep.yield ok) else pure (ForInStep.yield r)) (TP X pins σ Q) X.xe s
instance {X:Cx} {ifs:List Expr} {t:TT}:CoeFun (Dk X ifs t) (fun _=>
 ∀(pins:List (Addr×Obj)) (s:Shared) (σ:St) (H:Hp) (Q:Bool->Hp->Prop),Inv X pins σ H s->t σ H Q->wpAny (model X.prog X.w) X.A (forIn ifs true fun c r=>if r=true then do let ok <- isTrue c X.env (eval c X.env); pure (ForInStep.yield ok) else pure (ForInStep.yield r)) (TP X pins σ Q) X.xe s):=⟨Dk.go⟩
def pX:TT:=fun _ H Q=>Q true H
theorem jc {X:Cx}:Dk X [] pX:=.mk fun pins s σ H Q I h=>wpAny_tests_nil ⟨H,I,h⟩
theorem Cw {X:Cx} {c:Expr} {t:TT} (h:PT X c t):Dk X [c] t:=.mk fun pins s σ H Q I q=>wpAny_tests_one (h pins s σ H Q I q)
def eG (nt:Nat) (js:List Nat) (wi:TI) (g:TG) (tc:TT) (te:TE):TE:=fun σ H Q=>wi σ H fun J H1=>∀acc,H1 acc=none->∃W:Nat->Nat->List V->Hp->Prop,(∃m,W 0 m [] (upd H1 acc (.lst [])))/\∀i m ys H2,W i m ys H2 ->
 (J.stop i H2/\Q (.ref acc) H2)\/(J.go i H2/\∀x H3,J.xU i H2 x H3->g x (List.replicate nt none++bW js σ) H3 fun σ' H'=>(σ'.drop nt=bW js σ/\σ'.length=(List.replicate nt (none:Option V)++bW js σ).length)/\tc σ' H' fun b cZ=>
  if b=true then te σ' cZ fun y H4=>H4 acc=some (.lst ys)/\ys.length<sizeLine/\∃m',m'<m/\W (i+1) m' (ys++[y]) (upd H4 acc (.lst (ys++[y]))) else ∃m',m'<m/\W (i+1) m' ys cZ)
theorem CQ {prog:Program} {w:World} {A:Around} {R:Result->Shared->Prop} {s:Shared} {elt target iter:Expr} {ifs:List Expr} {sc:Scope} {pos:Pos} {it acc:Value} {env:Env} (Iv:Nat->Shared->Prop)
  (turn:∀n s,Iv n s->wpAny (model prog w) A (pyNext it) (fun r s1=>match r with
   | none=>R (.ok .next) s1
   | some v=>wpAny (model prog w) A (letOwnedTupleGo target it v) (fun _ s2=>wpAny (model prog w) A (assign target env v) (fun _ s3=>
     wpAny (model prog w) A (forIn ifs true fun c r=>if r=true then do let ok <- isTrue c env (eval c env); pure (ForInStep.yield ok) else pure (ForInStep.yield r)) (fun ok s3'=>
     if ok=true then wpAny (model prog w) A (eval elt env) (fun x s4=>
     wpAny (model prog w) A (call (.builtin "list.append") [acc,x]) (fun _ s5=>∃m,m<n/\Iv m s5) (fun _ _=>False) s4) (fun _ _=>False) s3' else ∃m,m<n/\Iv m s3') (fun _ _=>False) s3) (fun _ _=>False) s2) (fun _ _=>False) s1) (fun _ _=>False) s)
  (n:Nat) (h:Iv n s):codeAny (model prog w) A (.compLoop (.ListComp elt [⟨target,iter,ifs,0⟩] sc pos) 0 it acc env) R s:=by
 refine codeAny_loop rfl Iv (fun n s hI=>?_) n h
 show wpAny _ _ ((compTurn (.ListComp elt [⟨target,iter,ifs,0⟩] sc pos) 0 it acc env).onRaise (fun x=>do noteFrame x env; theTreesLotGoes x)) _ _ s
 refine wpAny_noted ?_
 rw[compTurn_list]
 refine aQ (Bv (aQ (gm (turn n s hI) (fun r s1 q1=>?_) fun _ _ f=>f.elim)))
 cases r with
 | none=>exact bU q1
 | some v=>
  refine aQ (gm q1 (fun _ s2 q2=>?_) fun _ _ f=>f.elim)
  refine aQ (gm q2 (fun _ s3 q3=>aQ (gm q3 (fun ok s3' q3'=>?_) fun _ _ f=>f.elim)) fun _ _ f=>f.elim)
  cases ok with
  | false=>exact bU ⟨rfl,q3'⟩
  | true=>exact aQ (aQ (gm q3' (fun x s4 q4=>aQ (gm q4 (fun _ s5 q5=>bU (bU ⟨rfl,q5⟩)) fun _ _ f=>f.elim)) fun _ _ f=>f.elim))
theorem xg {X:Cx} {elt iter:Expr} {tg:Expr} {ifs:List Expr} {g:TG} {tc:TT} {nt:Nat} {pos:Pos} {sc:Scope} {wi:TI} {te:TE} {N':List Str} {js:List Nat} {use:Option (Value->Sem Unit)} {Qc:Value->Shared->Prop} {pins:List (Addr×Obj)} {s:Shared} {σ:St} {H:Hp} {Q:VK} {kp:Pos} (hc:X.calm=true) (hi:PI X tg iter wi) (S:R9 X nt N' js sc)
  (hgt:∀fp s H,PG (CN X N' sc fp s H) tg g) (hif:∀fp s H,Dk (CN X N' sc fp s H) ifs tc) (he:∀fp s H,PE (CN X N' sc fp s H) elt te) (hs:∀x,foldedSetIterable iter X.env x=pure x) (I:Inv X pins σ H s) (h:eG nt js wi g tc te σ H Q)
  (fin:∀(acc C:Addr) (H':Hp) (s':Shared),Inv X pins σ H' s'->gG X pins H' C->(∃m,s'.heap.Ns C m)->Q (.ref acc) H'->compPost (model X.prog X.w) X.A X.xe use Qc (.ref acc) C (.ok .next) s') :
  wpAny (model X.prog X.w) X.A (comprehension (.ListComp elt [⟨tg,iter,ifs,0⟩] sc pos) sc X.env kp (newList []) false (eval iter X.env) use) Qc X.xe s:=by
 refine wpAny_comprehension_free (use:=use) rfl hs S.clos S.kind S.names ?_
 refine cQ (hi pins s σ H _ I h) fun v s1 q1=>cQ q1 fun itv s2 q2=>?_
 obtain⟨it,fp,tn,J,H2,e,I2,T,st2,f2,q3⟩:=q2
 subst e
 refine uf ?_
 obtain⟨W,⟨m0,w0⟩,turn⟩:=q3 s2.heap.objs.size I2.fresh
 have I3:=I2.UJ (ys:=[]) (its:=[]) (t':=s2.toks) .nil (fQ _)
 have lt2:∀b∈fp,b<s2.heap.objs.size:=fun b hb=>by
  obtain⟨o,ho,_⟩:=T.obj 0 _ st2 b hb
  exact b_ ho
 generalize e3:({ s2 with heap:=s2.heap.push { cls:=.type "list",data:=.seq ([]:List Value).toArray },toks:=s2.toks }:Shared)=s3 at I3
 have e3':({ s2 with heap:=s2.heap.push { cls:=.type "list",dict:=none,data:=.seq ([]:List Value).toArray } }:Shared)=s3:=e3
 have sz3:s3.heap.objs.size=s2.heap.objs.size+1:=by rw[<- e3]; exact jP ..
 have st3:tn 0 s3.heap:=T.keep 0 _ _ st2 fun b hb o ho=>by rw[<- e3]; exact eO _ ho
 have lt3:∀b∈fp,b<s3.heap.objs.size:=fun b hb=>by rw[sz3]; exact zN (lt2 b hb)
 have f3:∀b∈fp,gG X pins (upd H2 s2.heap.objs.size (.lst [])) b:=fun b hb=>⟨by rw[aP (fK (lt2 b hb))]; exact(f2 b hb).1,(f2 b hb).2⟩
 generalize hH3:upd H2 s2.heap.objs.size (.lst [])=H3 at I3 f3 w0
 refine xV ?_
 generalize eh1:pushCells (s3.heap.push { cls:=.type "dict",data:=.dict #[] }) sc.names=h1
 have hk:∀b o,s3.heap.get? b=some o->h1.get? b=some o:=fun b o q=>by rw[<- eh1]; exact pushCells_keeps _ _ b o (eO _ q)
 have hns':h1.Ns s3.heap.objs.size fun _=>none:=by rw[<- eh1]; exact(Heap.Ns.new s3.heap (.type "dict")).keeps (pushCells_keeps _ _)
 have I4:Inv (CN X N' sc fp s3 H3) [] (List.replicate nt none++bW js σ) H3 { s3 with heap:=h1,toks:=s3.toks }:=z7 I3 f3 lt3 S (fun {x c} e=>by
  have:=xq sc.names (s3.heap.push { cls:=.type "dict",data:=.dict #[] }) (pM sc X.env) x c (by rw[jP]; exact e)
  rw[eh1,jP] at this
  exact this) hns' hk
 have ZF:tn 0 h1:=T.keep 0 _ _ st3 fun b hb o ho=>hk b o ho
 have stat:∀{H':Hp},(∀b∈fp,H' b=none)->∀b∈fp,gG (CN X N' sc fp s3 H3) [] H' b:=fun hn b hb=>⟨hn b hb,fK (lt3 b hb),I4.ok.Ij b hb,.inl hb,(I4.ok.exf b hb).2,fun p hp=>absurd (show p∈([]:List (Addr×Obj)) from hp) (by simp)⟩
 have out:∀{σ':St} {H':Hp} {s':Shared},Inv (CN X N' sc fp s3 H3) [] σ' H' s'->Q (.ref s2.heap.objs.size) H'->compPost (model X.prog X.w) X.A X.xe use Qc (.ref s2.heap.objs.size) s3.heap.objs.size (.ok .next) s':=by
  intro σ' H' s' I' q'
  obtain⟨m,hn,_⟩:=id I'.loc
  have I5:Inv X pins σ H' s':=I3.call' I'.os I'.base I'.hok I'.bare fun b hb=>⟨(f3 b hb).2.2.2.1,(f3 b hb).2.1,(f3 b hb).2.2.2.2.1,(f3 b hb).2.2.2.2.2⟩
  exact fin _ _ H' s' I5 (I3.uq (bF _) I'.free) ⟨m,hn⟩ q'
 have loop:∀s4:Shared,s4={ s3 with heap:=h1,toks:=s3.toks }->codeAny (model X.prog X.w) X.A (.compLoop (.ListComp elt [⟨tg,iter,ifs,0⟩] sc pos) 0 (.ref it) (.ref s2.heap.objs.size) (compEnvC sc (cellsFrom (s3.heap.objs.size+1) sc.names (pM sc X.env)) s3.heap.objs.size X.env))
   (compPost (model X.prog X.w) X.A X.xe use Qc (.ref s2.heap.objs.size) s3.heap.objs.size) s4:=by
  rintro s4 rfl
  refine CQ (fun n s'=>∃i ys H',Inv (CN X N' sc fp s3 H3) [] (List.replicate nt none++bW js σ) H' s'/\tn i s'.heap/\(∀b∈fp,H' b=none)/\W i n ys H') ?_ m0 ⟨0,[],H3,I4,ZF,fun b hb=>(f3 b hb).1,w0⟩
  rintro n s5 ⟨i,ys,H5,I5,Tj,Yg,w5⟩
  rcases turn i n ys H5 w5 with⟨stop,qn⟩ | ⟨go,step⟩
  ·refine cQ (T.done (CN X N' sc fp s3 H3) rfl rfl rfl hc i [] s5 _ H5 (fun _ _=>False) I5 (stat Yg) Tj stop) fun r s6 qx=>?_
   obtain⟨hr,I6⟩:=qx
   subst hr
   exact out I6 qn
  ·refine cQ (T.item (CN X N' sc fp s3 H3) rfl rfl rfl hc i [] s5 _ H5 (fun _ _=>False) I5 (stat Yg) Tj go) fun r s6 qx=>?_
   obtain⟨u,hr,q6⟩:=qx
   subst hr
   refine cQ q6 fun _ s7 qx=>?_
   obtain⟨y,H7,I7,r7,y7,Ti,fr7⟩:=qx
   have I7':=I7.pinned (stat fr7) (T.obj _ _ Ti)
   refine cQ (hgt fp s3 H3 _ s7 _ H7 y u _ I7' r7 (step y _ y7)) fun _ s8 qx=>?_
   obtain⟨σ8,H8,I8,hsh,q8⟩:=qx
   refine cQ (hif fp s3 H3 _ s8 _ _ _ I8 q8) fun b s8' qx=>?_
   obtain⟨H8',I8',q8'⟩:=qx
   have wk:∀k v,(List.replicate nt none++bW js σ)[k]?=some (some v)->σ8[k]?=some (some v):=fun k v e=>by
    by_cases hlt:k<nt
    ·rw[BL (by rw[BK]; exact hlt),Qt,aL hlt] at e
     cases e
    ·rw[vM (by rw[BK]; omega),BK,<- hsh.1,Ey] at e
     rw[show nt+(k-nt)=k by omega] at e
     exact e
   cases b with
   | true=>
    rw[aL rfl] at q8' ⊢
    refine cQ (he fp s3 H3 _ s8' _ _ _ I8' q8') fun z s9 qx=>?_
    obtain⟨vz,H9,I9,r9,ha,hz,m',hm,w9⟩:=qx
    refine cQ (fZ (X:=CN X N' sc fp s3 H3) _ s9 _ H9 (.ref s2.heap.objs.size) [vz] (.ref s2.heap.objs.size) [z] (fun _ H'=>H'=upd H9 s2.heap.objs.size (.lst (ys++[vz]))) I9 rfl (.cons r9 .nil) ⟨_,ys,vz,rfl,rfl,ha,hz,rfl⟩) fun _ lB qx=>?_
    obtain⟨_,ux,I10,_,e10⟩:=qx
    subst e10
    refine⟨m',hm,i+1,ys++[vz],_,(I10.iz).weak hsh.2.symm wk,T.keep _ _ _ Ti fun b hb o e=>(I10.pin (b,o) (iY _ (iY _ (dz hb e)))).1,fun b hb=>?_,w9⟩
    obtain⟨o,e,d⟩:=T.obj _ _ Ti b hb
    exact(I10.pin (b,o) (iY _ (iY _ (dz hb e)))).2.1
   | false=>
    rw[bB (by decide)] at q8' ⊢
    obtain⟨m',hm,w9⟩:=q8'
    refine⟨m',hm,i+1,ys,_,(I8'.iz).weak hsh.2.symm wk,T.keep _ _ _ Ti fun b hb o e=>(I8'.pin (b,o) (iY _ (iY _ (dz hb e)))).1,fun b hb=>?_,w9⟩
    obtain⟨o,e,d⟩:=T.obj _ _ Ti b hb
    exact(I8'.pin (b,o) (iY _ (iY _ (dz hb e)))).2.1
 exact codeAny_compStart_list (loop _ rfl) (T.self X.A 0 _ _ _ ZF (loop _ rfl))
theorem Qy {X:Cx} {elt iter:Expr} {tg:Expr} {ifs:List Expr} {g:TG} {tc:TT} {nt:Nat} {y:Str} {py pos spos:Pos} {sc:Scope} {wi:TI} {te:TE} {N':List Str} {js:List Nat} {i:Nat} (hN:X.N.Nodup) (hi':X.N[i]?=some y) (hy:Loc X.env.scope y) (hc:X.calm=true) (hi:PI X tg iter wi) (S:R9 X nt N' js sc)
  (hgt:∀fp s H,PG (CN X N' sc fp s H) tg g) (hif:∀fp s H,Dk (CN X N' sc fp s H) ifs tc) (he:∀fp s H,PE (CN X N' sc fp s H) elt te) (hs:∀x,foldedSetIterable iter X.env x=pure x:=by intro _; rfl) (hw:swapsWith (.ListComp elt [⟨tg,iter,ifs,0⟩] sc pos) (some (.Name y py)) spos.line X.env=pure true:=by rfl)
  (hf:X.fn y=true\/X.env.scope.names.lookup y=some .local:=by first | exact .inl rfl | exact .inr rfl | assumption) :
  PS X (.Assign [.Name y py] (.ListComp elt [⟨tg,iter,ifs,0⟩] sc pos) spos) (xW (eG nt js wi g tc te) (dG i)):=by
 refine .mk ?_
 intro pins s σ H D I h
 rw[exec_Assign_Name_used _ _ _ _ hw]
 refine aQ (Bv (aQ ?_))
 refine aQ (xg hc hi S hgt hif he hs I h fun acc C H' s' I5 fc ⟨m,hn⟩ q=>?_)
 have ho:∀b∈[C],∃o,s'.heap.get? b=some o/\∀v,o.data≠.cell v:=fun b hb=>by
  rw[fU.mp hb]
  obtain⟨o,es,n,e,ed,_⟩:=hn
  exact⟨o,e,fun v z=>by rw[ed] at z; cases z⟩
 have I6:=I5.pinned (fp:=[C]) (fun b hb=>by rw[fU.mp hb]; exact fc) ho
 have hg:PG X (.Name y py) (dG i):=aD hN hi' hy hf
 show wpAny _ _ (assign (.Name y py) X.env (.ref acc)) (fun _ s''=>∃m,s''.heap.Ns C m/\∀h',Heap.SameBut C s''.heap h'->_) _ s'
 refine cQ (hg _ s' _ H' (.ref acc) (.ref acc) _ I6 rfl q) fun _ s7 qx=>?_
 obtain⟨σ7,H7,I7,q7⟩:=qx
 have pc:∀o,s'.heap.get? C=some o->s7.heap.get? C=some o/\H7 C=none:=fun o e=>by
  have:=I7.pin (C,o) (iY _ (iY _ (dz (by simp) e)))
  exact⟨this.1,this.2.1⟩
 refine⟨m,hn.at fun o e=>(pc o e).1,fun h' sb=>bU (bU ⟨σ7,H7,?_,q7⟩)⟩
 have fr:H7 C=none:=by
  obtain⟨o,es,n,e,ed,_⟩:=hn
  exact(pc o e).2
 exact I7.iz.turned (it:=C) (t':=s7.toks) (fun b o hb e=>sb.extBut b o hb e) fr fc.2.1 fc.2.2.2.1 fc.2.2.2.2.1 fc.2.2.2.2.2
theorem QH {X:Cx} {elt iter tg:Expr} {ifs:List Expr} {g:TG} {tc:TT} {nt:Nat} {pos:Pos} {sc:Scope} {wi:TI} {te:TE} {N':List Str} {js:List Nat} (hc:X.calm=true) (hi:PI X tg iter wi) (S:R9 X nt N' js sc)
  (hgt:∀fp s H,PG (CN X N' sc fp s H) tg g) (hif:∀fp s H,Dk (CN X N' sc fp s H) ifs tc) (he:∀fp s H,PE (CN X N' sc fp s H) elt te) (hs:∀x,foldedSetIterable iter X.env x=pure x:=by intro _; rfl):PE X (.ListComp elt [⟨tg,iter,ifs,0⟩] sc pos) (eG nt js wi g tc te):=by
 refine .mk ?_
 intro pins s σ H Q I h
 rw[eval_ListComp]
 refine xg (use:=none) hc hi S hgt hif he hs I h fun acc C H' s' I5 fc ⟨m,hn⟩ q=>?_
 refine⟨m,hn,fun h' sb=>?_⟩
 exact⟨.ref acc,H',I5.turned (it:=C) (t':=s'.toks) (fun b o hb q=>sb.extBut b o hb q) fc.1 fc.2.1 fc.2.2.2.1 fc.2.2.2.2.1 fc.2.2.2.2.2,rfl,q⟩
theorem vR {X:Cx} {elt iter:Expr} {tg:Expr} {ifs:List Expr} {g:TG} {tc:TT} {nt:Nat} {y:Str} {py pos spos:Pos} {sc:Scope} {wi:TI} {te:TE} {N':List Str} {js:List Nat} {i:Nat} (hN:X.N.Nodup) (hi':X.N[i]?=some y) (hy:Loc X.env.scope y) (hc:X.calm=true) (hi:PI X tg iter wi) (S:j6 X nt N' js sc)
  (hgt:∀fp s H,PG (pK X N' sc fp s H) tg g) (hif:∀fp s H,Dk (pK X N' sc fp s H) ifs tc) (he:∀fp s H,PE (pK X N' sc fp s H) elt te) (hs:∀x,foldedSetIterable iter X.env x=pure x:=by intro _; rfl) (hw:swapsWith (.ListComp elt [⟨tg,iter,ifs,0⟩] sc pos) (some (.Name y py)) spos.line X.env=pure true:=by rfl)
  (hf:X.fn y=true\/X.env.scope.names.lookup y=some .local:=by first | exact .inl rfl | exact .inr rfl | assumption) :
  PS X (.Assign [.Name y py] (.ListComp elt [⟨tg,iter,ifs,0⟩] sc pos) spos) (xW (eG nt js wi g tc te) (dG i)):=Qy hN hi' hy hc hi S.toD (fun fp s H=>w6 S.h_▸hgt fp s H) (fun fp s H=>w6 S.h_▸hif fp s H) (fun fp s H=>w6 S.h_▸he fp s H) hs hw hf
theorem gD {X:Cx} {elt iter tg:Expr} {ifs:List Expr} {g:TG} {tc:TT} {nt:Nat} {pos:Pos} {sc:Scope} {wi:TI} {te:TE} {N':List Str} {js:List Nat} (hc:X.calm=true) (hi:PI X tg iter wi) (S:j6 X nt N' js sc)
  (hgt:∀fp s H,PG (pK X N' sc fp s H) tg g) (hif:∀fp s H,Dk (pK X N' sc fp s H) ifs tc) (he:∀fp s H,PE (pK X N' sc fp s H) elt te) (hs:∀x,foldedSetIterable iter X.env x=pure x:=by intro _; rfl):PE X (.ListComp elt [⟨tg,iter,ifs,0⟩] sc pos) (eG nt js wi g tc te):=QH hc hi S.toD (fun fp s H=>w6 S.h_▸hgt fp s H) (fun fp s H=>w6 S.h_▸hif fp s H) (fun fp s H=>w6 S.h_▸he fp s H) hs
theorem uO.toG {X:Cx} {N':List Str} {js:List Nat} {sc:Scope} (S:uO X N' js sc):j6 X 1 N' js sc:=⟨S.kind,S.h_,S.names,S.clos,S.all,by rw[S.len,Nat.add_comm],fun i j h=>by rw[Nat.add_comm]; exact S.cap i j h,fun y h=>S.RT y (by rw[<- List.drop_one]; exact h)⟩
theorem Je {js:List Nat} {wi:TI} {te:TE}:gK js wi te=eG 1 js wi (dG 0) pX te:=by
 funext σ H Q
 have e:∀(x:V) (H3:Hp) (K1:VK) (K2:Hp->Prop),te (some x::bW js σ) H3 K1=dG 0 x (List.replicate 1 none++bW js σ) H3 fun σ' H'=>(σ'.drop 1=bW js σ/\σ'.length=(List.replicate 1 (none:Option V)++bW js σ).length)/\pX σ' H' fun b cZ=>if b=true then te σ' cZ K1 else K2 cZ:=fun x H3 K1 K2=>propext ⟨fun h=>⟨⟨rfl,rfl⟩,h⟩,fun h=>h.2⟩
 unfold gK eG
 refine gW (wi σ H) (funext fun J=>funext fun H1=>?_)
 refine propext ⟨fun h acc ha=>?_,fun h acc ha=>?_⟩
 ·obtain⟨W,h0,hs⟩:=h acc ha
  refine⟨W,h0,fun i m ys H2 w=>(hs i m ys H2 w).imp id fun z=>⟨z.1,fun x H3 y=>?_⟩⟩
  have:=z.2 x H3 y
  rw[e x H3 _ fun cZ=>∃m',m'<m/\W (i+1) m' ys cZ] at this
  exact this
 ·obtain⟨W,h0,hs⟩:=h acc ha
  refine⟨W,h0,fun i m ys H2 w=>(hs i m ys H2 w).imp id fun z=>⟨z.1,fun x H3 y=>?_⟩⟩
  rw[e x H3 _ fun cZ=>∃m',m'<m/\W (i+1) m' ys cZ]
  exact z.2 x H3 y
theorem iw {X:Cx} {elt iter:Expr} {x:Str} {px pos:Pos} {sc:Scope} {wi:TI} {te:TE} {N':List Str} {js:List Nat} (hc:X.calm=true) (hi:PI X (.Name x px) iter wi) (S:uO X N' js sc) (h0:N'[0]?=some x) (nd:N'.Nodup)
  (hx:sc.names.lookup x=some .local) (he:∀fp s H,PE (pK X N' sc fp s H) elt te) (hs:∀x,foldedSetIterable iter X.env x=pure x:=by intro _; rfl):PE X (.ListComp elt [⟨.Name x px,iter,[],0⟩] sc pos) (gK js wi te):=by
 rw[Je]
 exact gD hc hi S.toG (fun _ _ _=>aD nd h0 (.inl (je hx)) (.inr (je hx))) (fun _ _ _=>jc) he hs
theorem JM {X:Cx} {elt iter:Expr} {x y:Str} {px py pos spos:Pos} {sc:Scope} {wi:TI} {te:TE} {N':List Str} {js:List Nat} {i:Nat} (hN:X.N.Nodup) (hi':X.N[i]?=some y) (hy:Loc X.env.scope y) (hc:X.calm=true) (hi:PI X (.Name x px) iter wi) (S:uO X N' js sc) (h0:N'[0]?=some x) (nd:N'.Nodup)
  (hx:sc.names.lookup x=some .local) (he:∀fp s H,PE (pK X N' sc fp s H) elt te) (hs:∀x,foldedSetIterable iter X.env x=pure x:=by intro _; rfl) (hw:swapsWith (.ListComp elt [⟨.Name x px,iter,[],0⟩] sc pos) (some (.Name y py)) spos.line X.env=pure true:=by rfl)
  (hf:X.fn y=true\/X.env.scope.names.lookup y=some .local:=by first | exact .inl rfl | exact .inr rfl | assumption) :
  PS X (.Assign [.Name y py] (.ListComp elt [⟨.Name x px,iter,[],0⟩] sc pos) spos) (xW (gK js wi te) (dG i)):=by
 rw[Je]
 exact vR hN hi' hy hc hi S.toG (fun _ _ _=>aD nd h0 (.inl (je hx)) (.inr (je hx))) (fun _ _ _=>jc) he hs hw hf
theorem j6.of {X:Cx} {nt:Nat} {N':List Str} {js:List Nat} {sc:Scope} (k:sc.kind=.function:=by rfl) (n:(sc.names.all fun y=>y.2 != .cell)=true:=by decide +kernel)
  (l:(sc.names.all fun y=>y.2 != .local || sc.names.lookup y.1==some .local)=true:=by decide +kernel) (al:(sc.names.all fun y=>y.2 != .free || (X.env.cells.lookup y.1).isSome)=true:=by rfl)
  (ln:N'.length=nt+js.length:=by rfl) (cp:(N'.drop nt).map some=js.map (fun j=>X.N[j]?):=by rfl) (ck:((N'.drop nt).all fun y=>X.env.kindOf y==some .cell&&sc.names.lookup y==some .free)=true:=by rfl):j6 X nt N' js sc:=by
 have n':∀y∈sc.names,y.2≠.cell:=fun y hy=>by have:=ue.mp n y hy; simpa using this
 refine⟨k,n',m7 l,jw al,al,ln,fun i j h=>?_,fun y h=>?_⟩
 ·have:=gW (fun l=>l[i]?) cp
  simp only[gM,Ey,h,Option.map_some] at this
  cases e:N'[nt+i]? with
  | none=>rw[e] at this; cases this
  | some y=>rw[e] at this; exact Option.some.inj this
 ·have:=ue.mp ck y h
  simpa using this
def LCK (K:PySem.W.Frag) (js:List Nat) (te:TE) (σ:St) (Q:VK) (x:V) (H1:Hp):Prop:=gK js (wQ K fun _ H R=>R x H) te σ H1 Q
theorem Li {K:PySem.W.Frag} {js:List Nat} {tl te:TE} {σ:St} {H:Hp} {Q:VK}:gK js (wQ K tl) te σ H Q=tl σ H (LCK K js te σ Q):=rfl
theorem LCK.of {K:PySem.W.Frag} {js:List Nat} {a:Addr} {xs:List V} {es:List PyData} {te:TE} {σ:St} {H:Hp} {Q:VK} (ha:H a=some (.lst xs)) (hn:es.length=xs.length) (hz:es.length<=sizeLine) (hL:bM es=true)
  (step:∀(i:Nat) x e H',xs[i]?=some x->es[i]?=some e->aF H H'->∀R:VK,(∀v cZ,aF H' cZ->At cZ e v->R v cZ)->te (some x::bW js σ) H' R)
  (fin:∀acc ys H',aF H H'->H acc=none->H' acc=some (.lst ys)->ak (hid acc H') es ys->Q (.ref acc) H'):LCK K js te σ Q (.ref a) H:=KJ (fun R h=>h) ha hn hz hL step fin
theorem Vg {K:PySem.W.Frag} {js:List Nat} {a:Addr} {xs:List V} {es:List PyData} {tl te:TE} {σ:St} {H:Hp} {Q:VK} (hl:∀R:VK,R (.ref a) H->tl σ H R) (ha:H a=some (.tup xs)) (hn:es.length=xs.length) (hz:es.length<=sizeLine) (hL:bM es=true)
  (step:∀(i:Nat) x e H',xs[i]?=some x->es[i]?=some e->aF H H'->∀R:VK,(∀v cZ,aF H' cZ->At cZ e v->R v cZ)->te (some x::bW js σ) H' R)
  (fin:∀acc ys H',aF H H'->H acc=none->H' acc=some (.lst ys)->ak (hid acc H') es ys->Q (.ref acc) H'):gK js (wO K tl) te σ H Q:=by
 refine hl _ ⟨a,rfl,⟨xs,cG.of ha⟩,fun acc hacc=>?_⟩
 refine⟨fun i m ys H2=>m=es.length-i/\i<=es.length/\ak (hid acc H2) (es.take i) ys/\aF H H2/\H2 acc=some (.lst ys),⟨_,rfl,fQ _,ak.nil,aK hacc _,az⟩,?_⟩
 rintro i m ys H2 ⟨rfl,hi,hA,sm,hy⟩
 have ht:cG K H2 a xs:=cG.of (sm _ _ ha)
 by_cases hlt:i<es.length
 ·refine .inr ⟨⟨xs,xs[i]'(by omega),ht,fM (by omega)⟩,fun x H3 y=>?_⟩
  obtain⟨e,y⟩:=y
  subst e
  have e1:es[i]?=some es[i]:=fM hlt
  refine step i x _ _ (y xs ht) e1 sm _ fun v H4 s4 a4=>⟨s4 _ _ hy,?_,es.length-(i+1),by omega,rfl,hlt,?_,?_,az⟩
  ·rw[hA.length,jj]; omega
  ·rw[gF,Bw,e1]
   exact ak.append (hA.mono (aF.hid s4)) (ak.cons (At.sH (s4 _ _ hy) _ _ (jo hL e1) a4) ak.nil)
  ·refine fun b o q=>?_
   have nb:b≠acc:=bN q hacc
   rw[aP nb]
   exact s4 _ _ (sm _ _ q)
 ·have e:i=es.length:=by omega
  subst e
  rw[pC] at hA
  exact .inl ⟨⟨xs,ht,by omega⟩,fin _ _ _ sm hacc hy hA⟩
theorem Ag (kp:Nat->Bool) (f:Nat->V) (i:Nat):((List.range (i+1)).filter kp).map f=((List.range i).filter kp).map f++(if kp i=true then[f i] else[]):=by
 rw[List.range_succ,List.filter_append,jC]
 cases h:kp i <;> simp[h]
theorem RD (kp:Nat->Bool) (f:Nat->V) (i:Nat):(((List.range i).filter kp).map f).length<=i:=by
 rw[bR]
 exact oG (List.length_filter_le _ _) (by rw[JC]; exact bF _)
theorem xm {js:List Nat} {J:It} {tc:TT} {te:TE} {σ:St} {H:Hp} {Q:VK} {acc:Addr} {n:Nat} (xv:Nat->V) (kp:Nat->Bool) (f:Nat->V) (hn:n<=1000) (hacc:H acc=none)
  (go:∀i H',i<n->aF H H'->J.go i H') (yl:∀i H' x cZ,i<n->aF H H'->J.xU i H' x cZ->x=xv i/\cZ=H') (st:∀H',aF H H'->J.stop n H')
  (test:∀i H',i<n->aF H H'->∀R:Bool->Hp->Prop,R (kp i) H'->tc (some (xv i)::bW js σ) H' R)
  (val:∀i H',i<n->kp i=true->aF H H'->∀R:VK,R (f i) H'->te (some (xv i)::bW js σ) H' R)
  (fin:∀H',aF H H'->H' acc=some (.lst (((List.range n).filter kp).map f))->Q (.ref acc) H') :
  ∃W:Nat->Nat->List V->Hp->Prop,(∃m,W 0 m [] (upd H acc (.lst [])))/\∀i m ys H2,W i m ys H2 ->
   (J.stop i H2/\Q (.ref acc) H2)\/(J.go i H2/\∀x H3,J.xU i H2 x H3->dG 0 x (List.replicate 1 none++bW js σ) H3 fun σ' H'=>(σ'.drop 1=bW js σ/\σ'.length=(List.replicate 1 (none:Option V)++bW js σ).length)/\tc σ' H' fun b cZ=>
    if b=true then te σ' cZ fun y H4=>H4 acc=some (.lst ys)/\ys.length<sizeLine/\∃m',m'<m/\W (i+1) m' (ys++[y]) (upd H4 acc (.lst (ys++[y]))) else ∃m',m'<m/\W (i+1) m' ys cZ):=by
 refine⟨fun i m ys H2=>m=n-i/\i<=n/\ys=((List.range i).filter kp).map f/\aF H H2/\H2 acc=some (.lst ys),⟨_,rfl,fQ _,rfl,aK hacc _,az⟩,?_⟩
 rintro i m ys H2 ⟨rfl,hi,rfl,sm,hy⟩
 by_cases hlt:i<n
 ·refine .inr ⟨go i H2 hlt sm,fun x H3 y=>?_⟩
  obtain⟨rfl,rfl⟩:=yl i H2 x H3 hlt sm y
  refine⟨⟨rfl,by simp⟩,?_⟩
  refine test i _ hlt sm _ ?_
  have hs:=Ag kp f i
  cases h:kp i with
  | true=>
   rw[aL rfl]
   rw[h,aL rfl] at hs
   refine val i _ hlt h sm _ ⟨hy,bw (by have:=RD kp f i; omega),n-(i+1),by omega,rfl,hlt,hs.symm,sm.d7 hacc,az⟩
  | false=>
   rw[bB (by decide)]
   rw[h,bB (by decide),lZ] at hs
   exact⟨n-(i+1),by omega,rfl,hlt,hs.symm,sm,hy⟩
 ·have e:i=n:=by omega
  subst e
  exact .inl ⟨st _ sm,fin _ sm hy⟩
theorem KN {K:PySem.W.Frag} {js:List Nat} {a:Addr} {xs:List V} {tl:TE} {tc:TT} {te:TE} {σ:St} {H:Hp} {Q:VK} (kp:Nat->Bool) (f:Nat->V) (hl:∀R:VK,R (.ref a) H->tl σ H R) (ha:H a=some (.lst xs)) (hn:xs.length<=1000)
  (test:∀i x H',xs[i]?=some x->aF H H'->∀R:Bool->Hp->Prop,R (kp i) H'->tc (some x::bW js σ) H' R)
  (val:∀i x H',xs[i]?=some x->kp i=true->aF H H'->∀R:VK,R (f i) H'->te (some x::bW js σ) H' R)
  (fin:∀acc H',aF H H'->H acc=none->H' acc=some (.lst (((List.range xs.length).filter kp).map f))->Q (.ref acc) H'):eG 1 js (wQ K tl) (dG 0) tc te σ H Q:=by
 refine hl _ ⟨a,rfl,⟨xs,dX.of ha⟩,fun acc hacc=>?_⟩
 have ht:∀H',aF H H'->dX K H' a xs:=fun H' s=>dX.of (s _ _ ha)
 have gx:∀i,i<xs.length->xs[i]?=some (xs.getD i .non):=fun i hi=>by rw[fJ,fM hi]; rfl
 exact xm (n:=xs.length) (fun i=>xs.getD i .non) kp f hn hacc (fun i H' hi s=>⟨xs,_,ht H' s,gx i hi⟩) (fun i H' x cZ hi s y=>by
   obtain⟨e,y⟩:=y
   have:=y xs (ht H' s)
   rw[gx i hi] at this
   exact⟨(Option.some.inj this).symm,e⟩) (fun H' s=>⟨xs,ht H' s,bF _⟩)
  (fun i H' hi s R hR=>test i _ H' (gx i hi) s R hR) (fun i H' hi hk s R hR=>val i _ H' (gx i hi) hk s R hR) fun H' s h=>fin acc H' s hacc h
theorem Vi {js:List Nat} {ta:TA} {tc:TT} {te:TE} {σ:St} {H:Hp} {Q:VK} {n:Nat} (kp:Nat->Bool) (f:Nat->V) (hl:∀R:List V->Hp->Prop,R [.int n] H->ta σ H R) (hn:n<=1000)
  (test:∀i H',i<n->aF H H'->∀R:Bool->Hp->Prop,R (kp i) H'->tc (some (.int (0+(i:Nat)))::bW js σ) H' R)
  (val:∀i H',i<n->kp i=true->aF H H'->∀R:VK,R (f i) H'->te (some (.int (0+(i:Nat)))::bW js σ) H' R)
  (fin:∀acc H',aF H H'->H acc=none->H' acc=some (.lst (((List.range n).filter kp).map f))->Q (.ref acc) H'):eG 1 js (Aa ta) (dG 0) tc te σ H Q:=by
 refine hl _ ⟨n,rfl,by omega,by omega,fun acc hacc=>?_⟩
 have en:((n:Int)).toNat=n:=rW n
 rw[en]
 exact xm (n:=n) (fun i=>.int (0+(i:Nat))) kp f hn hacc (fun i H' hi s=>hi) (fun i H' x cZ hi s y=>⟨y.2,y.1⟩) (fun H' s=>bF _) test val fun H' s h=>fin acc H' s hacc h
section
variable {prog:Program} {w:World} {A:Around} {E:Value->Shared->Prop} {s:Shared}
theorem _root_.PySem.Heap.ExtBut.trans' {b:Addr} {h h1 h2:Heap} (x:Heap.ExtBut b h h1) (y:∀c o,h1.get? c=some o->h2.get? c=some o):Heap.ExtBut b h h2:=fun c o n e=>y c o (x c o n e)
theorem Lk {α:Type} {Q:α->Shared->Prop} (hh:A.handled=none) (q:∀h' x,(∀c o,s.heap.get? c=some o->h'.get? c=some o)->(∃o,h'.get? x=some o/\o.cls=.type "StopIteration")->E (.ref x) { s with heap:=h' }) :
  wpAny (model prog w) A (Builtin.SmallTypes.stopIteration (α:=α)) Q E s:=by
 unfold Builtin.SmallTypes.stopIteration
 refine aQ ?_
 simp only[newExc,newTuple]
 refine aQ (uf ?_ (by size_fits)); refine aQ (m:=firstArgMember _ _) (ud (a:=Value.none) (by rfl) ?_)
 refine uf ?_ (by size_fits); simp only[raiseNew]
 refine aQ (wpAny_handled ?_); rw[hh]
 refine aQ (bU (wpAny_throw ?_)); refine q _ _ (fun c o e=>?_) ⟨_,dM _ rfl,rfl⟩
 exact eO _ (eO _ e)
theorem XD {it t:Addr} {i:Nat} {its:Array Value} {u:Value} {Q:Value->Shared->Prop} (hi:s.heap.IsTupleIter it t i) (ht:s.heap.IsTuple t its) (hu:its[i]?=some u)
  (q:∀h',h'.IsTupleIter it t (i+1)->Heap.SameBut it s.heap h'->Q u { s with heap:=h' }):wpAny (model prog w) A (Builtin.SmallTypes.nextOf (.ref it)) Q E s:=by
 obtain⟨oi,gi,ci,di⟩:=id hi
 obtain⟨ot,gt,_,nt,dt⟩:=ht
 have ty:=hi.typeIs
 have nn:¬((Value.ref t==Value.none)=true):=fun z=>Bool.noConfusion (show false=true from z)
 unfold Builtin.SmallTypes.nextOf
 refine aQ (Ma (name:=Str.ofString "__next__") ty F.slot_tuple_iterator_next (vK F.slot_tuple_iterator_next ty F.entry_tuple_iterator_next ?_ (F.args_tuple_iterator_next_1 _)))
 show wpAny _ _ (field (.ref it) 0 >>= _) _ _ s; refine aQ (ji gi di (x:=.ref t) rfl ?_)
 show wpAny _ _ (if(Value.ref t==Value.none)=true then _ else _) _ _ s; rw[bB nn]
 show wpAny _ _ (field (.ref it) 1 >>= _) _ _ s; refine aQ (ji gi di (x:=.int i 0) rfl ?_)
 show wpAny _ _ (seqItems? (.ref t) >>= _) _ _ s; refine aQ (qu gt dt ?_)
 simp only[rW,hu]
 have fin:∀h',(∃o,h'.get? it=some o/\o.cls=.type "tuple_iterator" /\ o.data=.fields #[.ref t,.int ((i+1:Nat):Int) 0])->Heap.SameBut it s.heap h'->Q u { s with heap:=h' }:=fun h' z sb=>q h' z sb
 refine aQ (zu gi di (by simp) (bU ⟨u,rfl,bU (fin _ ?_ (JG ..))⟩))
 refine⟨_,yf _ gi (Obj.isFreed_of_fields (Obj.data_mapFields di _)),(Obj.cls_mapFields ..).trans ci,?_⟩
 rw[Obj.data_mapFields di]
 simp[rawInt]
theorem Uq {it t:Addr} {i:Nat} {its:Array Value} {Q:Value->Shared->Prop} (hh:A.handled=none) (hi:s.heap.IsTupleIter it t i) (ht:s.heap.IsTuple t its) (hu:its[i]?=none)
  (q:∀h' x,Heap.ExtBut it s.heap h'->(∃o,h'.get? x=some o/\o.cls=.type "StopIteration")->E (.ref x) { s with heap:=h' }):wpAny (model prog w) A (Builtin.SmallTypes.nextOf (.ref it)) Q E s:=by
 obtain⟨oi,gi,ci,di⟩:=id hi
 obtain⟨ot,gt,_,nt,dt⟩:=ht
 have ty:=hi.typeIs
 have nn:¬((Value.ref t==Value.none)=true):=fun z=>Bool.noConfusion (show false=true from z)
 unfold Builtin.SmallTypes.nextOf
 refine aQ (Ma (name:=Str.ofString "__next__") ty F.slot_tuple_iterator_next (vK F.slot_tuple_iterator_next ty F.entry_tuple_iterator_next ?_ (F.args_tuple_iterator_next_1 _)))
 show wpAny _ _ (field (.ref it) 0 >>= _) _ _ s; refine aQ (ji gi di (x:=.ref t) rfl ?_)
 show wpAny _ _ (if(Value.ref t==Value.none)=true then _ else _) _ _ s; rw[bB nn]
 show wpAny _ _ (field (.ref it) 1 >>= _) _ _ s; refine aQ (ji gi di (x:=.int i 0) rfl ?_)
 show wpAny _ _ (seqItems? (.ref t) >>= _) _ _ s; refine aQ (qu gt dt ?_)
 simp only[rW,hu]
 refine aQ (qw (aQ (zu gi di (by simp) ?_)))
 exact Lk (A:=A.in1) hh fun h' x k z=>q h' x ((JG ..).extBut.trans' k) z
end
theorem sU {prog:Program} {w:World} {A:Around} (hh:A.handled=none) {it t:Addr} (ne:t≠it) (its:Array Value):Draws prog w A it [it,t] its.size (fun i v=>its[i]?=some v) (fun i h=>h.IsTupleIter it t i/\h.IsTuple t its) where
 live:=fun i h z=>let ⟨⟨o,e,_⟩,_⟩:=z; ⟨o,e⟩
 frame:=fun i h h' z k=>⟨z.1.at fun o e=>k it jl o e,z.2.at fun o e=>k t (iM _ jl) o e⟩
 item:=fun i s Q E hi z q=>by
  refine XD z.1 z.2 (u:=its[i]) (Ek hi) fun h' z' sb=>?_
  exact q _ h' s.toks (Ek hi) ⟨z',z.2.extBut sb.extBut ne⟩ sb
 done:=fun s Q E z q=>Uq hh z.1 z.2 (by simp) q
abbrev tiH (h:Heap) (t:Addr):Heap:=h.push { cls:=.type "tuple_iterator",data:=.fields #[.ref t,.int 0 0] }
abbrev enH (h:Heap) (t:Addr):Heap:=(tiH h t).push { cls:=.type "enumerate",data:=.fields #[.none,.bool false,.ref h.objs.size,rawInt 0,.none,.none] }
set_option maxHeartbeats 1000000 in
theorem Q3 (t:Addr) (its:Array Value) (n:Nat) (dc:Option Addr) (sl:Array (Option Value)) :
  Meets (Builtin.«enumerate.__new__» ⟨[.type "enumerate",.ref t],[]⟩) (fun _ R s=>s.heap.get? t=some ⟨.type "tuple",dc,.seq its n,sl⟩/\R (.ok (.ret (.ref (tiH s.heap t).objs.size))) { s with heap:=enH s.heap t }):=
 .of_wp fun prog w A R s z=>by
  obtain⟨hp,g,d,tk,os⟩:=s
  obtain⟨ht,z⟩:=z
  have sub:=sub_enumerate
  have hT:Heap.IsTuple (Shared.heap ⟨hp,g,d,tk,os⟩) t its:=⟨_,ht,rfl,n,rfl⟩
  wp_walk using AutoSeq1.wpAny_loadPart' ht
  refine wpAny_stack_any fun st=>bU ?_
  split
  ·rename_i c _ _ _ _ _
   cases(c==Value.type "enumerate") <;> (wp_walk using AutoSeq1.wpAny_loadPart' ht,Lx hT; exact⟨_,rfl,z⟩)
  ·wp_walk using AutoSeq1.wpAny_loadPart' ht,Lx hT; exact⟨_,rfl,z⟩
theorem Iu {prog:Program} {w:World} {A:Around} {E:Value->Shared->Prop} {s:Shared} {t:Addr} {its:Array Value} {Q:Value->Shared->Prop} (hT:s.heap.IsTuple t its)
  (q:∀h',IsEnum h' (s.heap.objs.size+1) s.heap.objs.size 0 .none->h'.IsTupleIter s.heap.objs.size t 0->(∀b o,s.heap.get? b=some o->h'.get? b=some o)->Q (.ref (s.heap.objs.size+1)) { s with heap:=h' }) :
  wpAny (model prog w) A (call (.type "enumerate") [.ref t]) Q E s:=by
 obtain⟨⟨c,dc,dt,sl⟩,ht,hc,n,hd⟩:=hT
 cases(show c=.type "tuple" from hc)
 cases(show dt=.seq its n from hd)
 have sz:(tiH s.heap t).objs.size=s.heap.objs.size+1:=jP ..
 have g1:(enH s.heap t).get? (tiH s.heap t).objs.size=some _:=dM _ rfl
 have g0:(enH s.heap t).get? s.heap.objs.size=some _:=eO _ (dM _ rfl)
 refine callType_new F.called_enumerate (by decide) (F.typeCall_enumerate_1 _) (F.newCall_enumerate_1 _) (fun x=>F.args_object_init_2 x _) F.entry_enumerate_new (Q3 t its n dc sl) ⟨ht,?_⟩
 show _/\_
 rw[sz] at g1 ⊢
 exact⟨⟨_,g1,rfl⟩,q _ g1 ⟨_,g0,rfl,rfl⟩ fun b o e=>eO _ (eO _ e)⟩
def Yz (K:PySem.W.Frag) (a:Addr):It:=
 ⟨fun i H=>∃xs x,cG K H a xs/\xs[i]?=some x,fun i H x H'=>∃p y,H p=none/\x=.ref p/\H'=upd H p (.tup [.int i,y])/\∀xs,cG K H a xs->xs[i]?=some y,fun i H=>∃xs,cG K H a xs/\xs.length=i⟩
theorem G_ {P:Program} {w:World} {K:PySem.W.Frag} {elts:List Expr} {x1} {tp:Pos} (a e it:Addr) (hne:e≠it):Turn P w K (.Tuple elts x1 tp) (Yz K a) [e,it] e (fun i h=>(∃old,IsEnum h e it (i:Nat) old)/\h.IsTupleIter it a i) where
 mem:=by simp
 obj:=fun i h st b hb=>by
  obtain⟨⟨old,he⟩,o,ho,c,d⟩:=st
  rcases b7.mp hb with z | z
  ·rw[z]; exact⟨_,he,fun v q=>by cases q⟩
  ·rw[fU.mp z]; exact⟨o,ho,fun v q=>by rw[d] at q; cases q⟩
 keep:=fun i h h' st k=>by
  obtain⟨⟨old,he⟩,hi⟩:=st
  exact⟨⟨old,k e (by simp) _ he⟩,hi.at fun o q=>k it (by simp) o q⟩
 item:=by
  intro X hP hw hK hc i pins s σ H E I hf st hg
  subst hP hw hK
  obtain⟨⟨old,he⟩,hi⟩:=st
  obtain⟨xs,x,hq,hx⟩:=hg
  obtain⟨its,rv,p,hz⟩:=I.tuple hq
  obtain⟨u,hu,ru⟩:=rv.get hx
  have fe:=hf e (by simp)
  have fi:=hf it (by simp)
  have pT:s.heap.IsTuple a its.toArray:=p
  have nea:e≠a:=fun z=>by
   obtain⟨o,g,c,_⟩:=pT
   rw[<- z,he] at g
   cases g
   exact absurd (show Value.type "enumerate" = Value.type "tuple" from c) (by decide)
  have nia:a≠it:=fun z=>by
   obtain⟨o,g,c,_⟩:=pT
   obtain⟨o',g',c',_⟩:=hi
   rw[z,g'] at g
   cases g
   rw[c'] at c
   exact absurd c (by decide)
  have hlt:i<its.toArray.size:=by have:=(iQ.mp hu).1; simpa using this
  refine wpAny_pyNext_enum_itemD (sU (A:=X.A.in1) (show X.A.in1.handled=none from I.ok.hd hc) nia its.toArray) he (show _/\_ from⟨hi,pT⟩) hlt hne (fun z=>by rcases b7.mp z with y | y; exact hne y; exact nea (fU.mp y)) fun u' h' tk hu' eo hi' ht hsz kk=>?_
  have eu:u'=u:=by
   have:its[i]?=some u':=by simpa using hu'
   rw[hu] at this; exact(Option.some.inj this).symm
  subst eu
  have fr:H s.heap.objs.size=none:=I.hok.fresh (bF _)
  have I1:Inv X pins σ (upd H s.heap.objs.size (.tup [.int i,x])) { s with heap:=s.heap.push { cls:=.type "tuple",data:=.seq #[.int i tk,u'] },toks:=tk }:=
   I.laid (t':=tk) (fun b v z=>eO _ z) (bF _) ⟨(by show 2<=sizeLine; decide),[.int i tk,u'],.cons ⟨_,rfl⟩ (.cons ru .nil),⟨_,dM _ rfl,rfl,_,rfl⟩⟩
  have le:e<s.heap.objs.size:=b_ he
  have li:it<s.heap.objs.size:=by obtain⟨o,ho,_⟩:=hi; exact b_ ho
  have Ii:gG X pins (upd H s.heap.objs.size (.tup [.int i,x])) e:=⟨by rw[aP (fK le)]; exact fe.1,fe.2⟩
  have fi1:gG X pins (upd H s.heap.objs.size (.tup [.int i,x])) it:=⟨by rw[aP (fK li)]; exact fi.1,fi.2⟩
  have I2:Inv X pins σ (upd H s.heap.objs.size (.tup [.int i,x])) { s with heap:=h',toks:=tk+1 }:=I1.Jb (t':=tk+1) (fun b o z1 z2 z=>by
   by_cases y:b=s.heap.objs.size
   ·subst y
    rw[dM _ rfl] at z
    cases z
    exact ht
   ·rcases Heap.get?_push_cases z with v | v
    ·exact absurd v.1 y
    ·exact kk b o z1 z2 v) Ii fi1
  refine⟨_,rfl,wpAny_letOwnedTupleGo_enum eo fun h2 en sb=>⟨.ref s.heap.objs.size,_,I2.turned (it:=e) (t':=tk+1) (fun b o hb z=>sb.extBut b o hb z) Ii.1 Ii.2.1 Ii.2.2.2.1 Ii.2.2.2.2.1 Ii.2.2.2.2.2,rfl,⟨_,x,fr,rfl,rfl,fun ys hy=>by rw[I.rE hy hq]; exact hx⟩,⟨⟨_,en⟩,?_⟩,fun b hb=>?_⟩⟩
  ·exact hi'.1.at fun o z=>sb.extBut it o (Ne.symm hne) z
  ·rcases b7.mp hb with z | z
   ·rw[z]; exact Ii.1
   ·rw[fU.mp z]; exact fi1.1
 done:=by
  intro X hP hw hK hc i pins s σ H E I hf st hg
  subst hP hw hK
  obtain⟨⟨old,he⟩,hi⟩:=st
  obtain⟨xs,hq,hx⟩:=hg
  obtain⟨its,rv,p,hz⟩:=I.tuple hq
  have hl:=rv.length
  have pT:s.heap.IsTuple a its.toArray:=p
  obtain⟨f0,f1,f2,f3,f4,f5⟩:=hf it (by simp)
  have nia:a≠it:=fun z=>by
   obtain⟨o,g,c,_⟩:=pT
   obtain⟨o',g',c',_⟩:=hi
   rw[z,g'] at g
   cases g
   rw[c'] at c
   exact absurd c (by decide)
  have D:=sU (prog:=X.prog) (w:=X.w) (A:=X.A.in1) (show X.A.in1.handled=none from I.ok.hd hc) nia its.toArray
  refine wpAny_pyNext_enum_endD D he (show _/\_ from⟨?_,pT⟩) fun h' eb=>⟨rfl,I.turned (t':=s.toks) (fun b o hb z=>eb b o hb z) f0 f1 f3 f4 f5⟩
  have e:its.toArray.size=i:=by simp; omega
  rw[e]; exact hi
 self:=fun _ _ _ _ _ st h=>by
  obtain⟨⟨old,he⟩,_⟩:=st
  exact JD he h
section
variable {X:Cx}
def Rp (K:PySem.W.Frag) (ta:TA):TI:=fun σ H R=>ta σ H fun vs H1=>∃a,vs=[.ref a]/\(∃xs,cG K H1 a xs)/\R (Yz K a) H1
theorem QF {K:PySem.W.Frag} {e:Expr} {elts:List Expr} {x1} {tp p pos:Pos} {ta:TA} (hK:X.K=K) (hm:X.mg "enumerate" = none) (ha:PA X [e] ta) (hg:Gl X "enumerate" := by rfl) (h1:cC e=true:=by rfl) :
  PI X (.Tuple elts x1 tp) (.Call (.Name "enumerate" p) [e] [] pos) (Rp K ta):=by
 subst hK
 refine .mk ?_
 intro pins s σ H R I h
 refine rY (iR I hg hm qU ?_ (by decide) (by decide))
 refine PyProof.Rows.callWith_type1 (cQ (ha pos pins s σ H _ I h) fun us s1 ⟨vs,H1,I1,r1,q1⟩=>?_) (cR h1) (cL (es:=[]) rfl)
 obtain⟨a,rfl,⟨xs,hq⟩,q⟩:=q1
 obtain⟨u,rfl,ru⟩:=r1.one
 cases ru
 obtain⟨its,rv,pl,hz⟩:=I1.tuple hq
 refine Iu (show s1.heap.IsTuple a its.toArray from pl) fun h' he hi kk=>?_
 have I2:Inv X pins σ H1 { s1 with heap:=h' }:=I1.kept (t':=s1.toks) kk
 have f1:H1 (s1.heap.objs.size+1)=none:=I1.hok.fresh (Nat.le_succ _)
 have f0:H1 s1.heap.objs.size=none:=I1.hok.fresh (bF _)
 refine JD he ⟨s1.heap.objs.size+1,_,_,Yz X.K a,H1,rfl,I2,G_ a (s1.heap.objs.size+1) s1.heap.objs.size (Nat.succ_ne_self _),⟨⟨_,he⟩,hi⟩,fun b hb=>?_,q⟩
 rcases b7.mp hb with z | z
 ·rw[z]; exact I1.uq (Nat.le_succ _) f1
 ·rw[fU.mp z]; exact I1.uq (bF _) f0
end
end L2
namespace L2
open PySem PySem.Spec PyProof.Rows
structure YT (z TI TO i1 i2:Addr) (f1 f2:List Addr):Prop where
 a1:TI≠z
 a2:TO≠z
 a3:TI≠TO
 a4:i1≠z
 a5:i2≠z
 a6:TO≠i1
 a7:TO≠i2
 a8:i1≠i2
 b1:z∉f1
 b2:z∉f2
 b3:TO∉f1
 b4:TO∉f2
 b5:i1∉f2
 b6:i2∉f1
section
variable {prog:Program} {w:World} {A:Around} {E:Value->Shared->Prop} {s:Shared}
theorem Ln {b:Addr} {h h':Heap} {f:List Addr} (sb:Heap.SameBut b h h') (hb:b∉f):∀c∈f,∀o,h.get? c=some o->h'.get? c=some o:=fun c hc o e=>sb.extBut c o (fun z=>hb (z▸hc)) e
theorem Ov {z TI TO i1 i2:Addr} {f1 f2:List Addr} {n1 n2 k:Nat} {P1 P2:Nat->Value->Prop} {S1 S2:Nat->Heap->Prop} {a b:Value} {Q:Value->Shared->Prop} (Z:YT z TI TO i1 i2 f1 f2) (D1:Draws prog w A i1 f1 n1 P1 S1) (D2:Draws prog w A i2 f2 n2 P2 S2)
  (hz:IsZip s.heap z TI TO .none) (hi:IsPair s.heap TI (.ref i1) (.ref i2)) (ho:IsPair s.heap TO a b) (s1:S1 k s.heap) (s2:S2 k s.heap) (k1:k<n1) (k2:k<n2)
  (q:∀x y h' tk,P1 k x->P2 k y->IsZip h' z TI TO (rawInt s.heap.objs.size)->IsPair h' TO x y->S1 (k+1) h'->S2 (k+1) h'->IsPair h' s.heap.objs.size x y->h'.objs.size=s.heap.objs.size+1->(∀c o,c≠z->c≠TO->c≠i1->c≠i2->s.heap.get? c=some o->h'.get? c=some o)->Q (.ref s.heap.objs.size) { s with heap:=h',toks:=tk }) :
  wpAny (model prog w) A (Builtin.«zip.__next__» ⟨[.ref z],[]⟩) (fun fin s'=>∃v,fin=.done (.ret v)/\Q v s') E s:=by
 show wpAny _ _ (field (.ref z) 2 >>= _) _ _ _; refine aQ (ji hz rfl (x:=.bool false) rfl ?_)
 show wpAny _ _ (field (.ref z) 3 >>= _) _ _ _; refine aQ (ji hz rfl (x:=.ref TI) rfl (aQ (qu hi rfl ?_)))
 show wpAny _ _ (Builtin.SmallTypes.ownedTupleIsFree (.ref z) >>= _) _ _ _; unfold Builtin.SmallTypes.ownedTupleIsFree
 refine aQ (aQ (ji hz rfl (x:=.none) rfl (bU ?_))); simp only[if_true]
 refine aQ (qw (aQ (ji hz rfl (x:=.ref TO) rfl (aQ (Ly hz (by simp) fun hA zA sA=>?_)))))
 replace zA:IsZip hA z TI TO .ellipsis:=zA
 refine aQ ?_; simp only[List.zipIdx_cons,List.zipIdx_nil,zE,List.forIn_nil]
 refine aQ (aQ (wpAny_onRaise ?_)); show wpAny _ _ (Builtin.SmallTypes.nextOf (.ref i1) >>= _) _ _ _
 refine aQ (D1.item k _ _ _ k1 (D1.frame _ _ _ s1 (Ln sA Z.b1)) fun x hB tB pB stb sB=>bU ?_)
 have oB:IsPair hB TO a b:=sB.extBut _ _ Z.a6 (sA.extBut _ _ Z.a2 ho)
 have uB:S2 k hB:=D2.frame _ _ _ (D2.frame _ _ _ s2 (Ln sA Z.b2)) (Ln sB Z.b5)
 refine aQ (qu oB rfl (aQ (wpAny_updateSeq_pair oB fun hC oC sC=>?_)))
 replace oC:IsPair hC TO x b:=oC
 refine aQ (vN (bU (aQ (aQ (wpAny_onRaise ?_))))); show wpAny _ _ (Builtin.SmallTypes.nextOf (.ref i2) >>= _) _ _ _
 refine aQ (D2.item k _ _ _ k2 (D2.frame _ _ _ uB (Ln sC Z.b4)) fun y hD tD pD std sD=>bU ?_)
 have oD:IsPair hD TO x b:=sD.extBut _ _ Z.a7 oC
 refine aQ (qu oD rfl (aQ (wpAny_updateSeq_pair oD fun hF oF sF=>?_)))
 replace oF:IsPair hF TO x y:=oF
 refine aQ (vN (bU (bU (aQ (qu oF rfl (aQ (wpAny_newTuple ?_)))))))
 have zF:IsZip hF z TI TO .ellipsis:=sF.extBut _ _ Z.a2.symm (sD.extBut _ _ Z.a5.symm (sC.extBut _ _ Z.a2.symm (sB.extBut _ _ Z.a4.symm zA)))
 have size:hF.objs.size=s.heap.objs.size:=by rw[sF.1,sD.1,sC.1,sB.1,sA.1]
 have lz:z<hF.objs.size:=b_ zF
 show wpAny _ _ (Builtin.SmallTypes.ownedTupleHandOut (.ref z) (.ref hF.objs.size) >>= _) _ _ _; unfold Builtin.SmallTypes.ownedTupleHandOut
 have zG:IsZip (hF.push { cls:=.type "tuple",data:=.seq #[x,y] }) z TI TO .ellipsis:=eO _ zF
 refine aQ (aQ (Ly zG (by simp) fun hI zI sI=>?_))
 replace zI:IsZip hI z TI TO (rawInt hF.objs.size):=zI
 refine Ly zI (by simp) fun hJ zJ sJ=>bU ⟨_,rfl,?_⟩
 replace zJ:IsZip hJ z TI TO (rawInt hF.objs.size):=zJ
 have up:∀c o,c≠z->hF.get? c=some o->hJ.get? c=some o:=fun c o n e=>sJ.extBut _ _ n (sI.extBut _ _ n (eO _ e))
 have tJ:IsPair hJ hF.objs.size x y:=sJ.extBut _ _ (Eo lz) (sI.extBut _ _ (Eo lz) (dM _ rfl))
 have szJ:hJ.objs.size=hF.objs.size+1:=by rw[sJ.1,sI.1,jP]
 have kB:∀c o,c≠z->c≠TO->c≠i1->c≠i2->s.heap.get? c=some o->hF.get? c=some o:=fun c o n1 n2 n3 n4 e=>sF.extBut _ _ n2 (sD.extBut _ _ n4 (sC.extBut _ _ n2 (sB.extBut _ _ n3 (sA.extBut _ _ n1 e))))
 have u1:S1 (k+1) hF:=D1.frame _ _ _ (D1.frame _ _ _ (D1.frame _ _ _ stb (Ln sC Z.b3)) (Ln sD Z.b6)) (Ln sF Z.b3)
 have u2:S2 (k+1) hF:=D2.frame _ _ _ std (Ln sF Z.b4)
 show Q (.ref hF.objs.size) _
 rw[size] at zJ tJ szJ ⊢
 exact q x y hJ tD pB pD zJ (up _ _ Z.a2 oF) (D1.frame _ _ _ u1 fun c hc o e=>up c o (fun z'=>Z.b1 (z'▸hc)) e) (D2.frame _ _ _ u2 fun c hc o e=>up c o (fun z'=>Z.b2 (z'▸hc)) e) tJ szJ fun c o n1 n2 n3 n4 e=>up c o n1 (kB c o n1 n2 n3 n4 e)
theorem La {z TI TO i1 i2:Addr} {f1 f2:List Addr} {n1 n2 k:Nat} {P1 P2:Nat->Value->Prop} {S1 S2:Nat->Heap->Prop} {a b:Value} {Q:Fin->Shared->Prop} (Z:YT z TI TO i1 i2 f1 f2) (D1:Draws prog w A i1 f1 n1 P1 S1) (D2:Draws prog w A i2 f2 n2 P2 S2)
  (hz:IsZip s.heap z TI TO .none) (hi:IsPair s.heap TI (.ref i1) (.ref i2)) (ho:IsPair s.heap TO a b) (s1:S1 k s.heap) (s2:S2 k s.heap) (kk:k=n1\/(k<n1/\k=n2))
  (q:∀h' e,(∀c o,c≠z->c≠TO->c≠i1->c≠i2->s.heap.get? c=some o->h'.get? c=some o)->(∃o,h'.get? e=some o/\o.cls=.type "StopIteration")->∀tk,E (.ref e) { s with heap:=h',toks:=tk }) :
  wpAny (model prog w) A (Builtin.«zip.__next__» ⟨[.ref z],[]⟩) Q E s:=by
 show wpAny _ _ (field (.ref z) 2 >>= _) _ _ _; refine aQ (ji hz rfl (x:=.bool false) rfl ?_)
 show wpAny _ _ (field (.ref z) 3 >>= _) _ _ _; refine aQ (ji hz rfl (x:=.ref TI) rfl (aQ (qu hi rfl ?_)))
 show wpAny _ _ (Builtin.SmallTypes.ownedTupleIsFree (.ref z) >>= _) _ _ _; unfold Builtin.SmallTypes.ownedTupleIsFree
 refine aQ (aQ (ji hz rfl (x:=.none) rfl (bU ?_))); simp only[if_true]
 refine aQ (qw (aQ (ji hz rfl (x:=.ref TO) rfl (aQ (Ly hz (by simp) fun hA zA sA=>?_)))))
 replace zA:IsZip hA z TI TO .ellipsis:=zA
 refine aQ ?_; simp only[List.zipIdx_cons,List.zipIdx_nil,zE,List.forIn_nil]
 refine aQ (aQ (wpAny_onRaise ?_)); show wpAny _ _ (Builtin.SmallTypes.nextOf (.ref i1) >>= _) _ _ _
 rcases kk with e1 | ⟨k1,e2⟩
 ·have s1':=s1
  rw[e1] at s1'
  refine aQ (D1.done _ _ _ (D1.frame _ _ _ s1' (Ln sA Z.b1)) fun hB x sB hx=>?_)
  obtain⟨ox,gx,cx⟩:=hx
  have zB:IsZip hB z TI TO .ellipsis:=sB _ _ Z.a4.symm zA
  have nx:x≠z:=fun y=>by subst y; rw[zB] at gx; cases gx; exact absurd (show Value.type "zip" = Value.type "StopIteration" from cx) (by decide)
  refine Ly zB (by simp) fun hC _ sC=>q hC x (fun c o m1 _ m3 _ e=>sC.extBut _ _ m1 (sB _ _ m3 (sA.extBut _ _ m1 e))) ⟨ox,sC.extBut _ _ nx gx,cx⟩ _
 ·refine aQ (D1.item k _ _ _ k1 (D1.frame _ _ _ s1 (Ln sA Z.b1)) fun x hB tB pB stb sB=>bU ?_)
  have oB:IsPair hB TO a b:=sB.extBut _ _ Z.a6 (sA.extBut _ _ Z.a2 ho)
  have uB:S2 k hB:=D2.frame _ _ _ (D2.frame _ _ _ s2 (Ln sA Z.b2)) (Ln sB Z.b5)
  refine aQ (qu oB rfl (aQ (wpAny_updateSeq_pair oB fun hC oC sC=>?_)))
  refine aQ (vN (bU (aQ (aQ (wpAny_onRaise ?_))))); show wpAny _ _ (Builtin.SmallTypes.nextOf (.ref i2) >>= _) _ _ _
  have uC:S2 n2 hC:=by rw[<- e2]; exact D2.frame _ _ _ uB (Ln sC Z.b4)
  refine aQ (D2.done _ _ _ uC fun hD v sD hx=>?_)
  obtain⟨ox,gx,cx⟩:=hx
  have zD:IsZip hD z TI TO .ellipsis:=sD _ _ Z.a5.symm (sC.extBut _ _ Z.a2.symm (sB.extBut _ _ Z.a4.symm zA))
  have nx:v≠z:=fun y=>by subst y; rw[zD] at gx; cases gx; exact absurd (show Value.type "zip" = Value.type "StopIteration" from cx) (by decide)
  refine Ly zD (by simp) fun hF _ sF=>q hF v (fun c o m1 m2 m3 m4 e=>sF.extBut _ _ m1 (sD _ _ m4 (sC.extBut _ _ m2 (sB.extBut _ _ m3 (sA.extBut _ _ m1 e))))) ⟨ox,sF.extBut _ _ nx gx,cx⟩ _
theorem Wz {z TI TO i1 i2:Addr} {f1 f2:List Addr} {n1 n2 k:Nat} {P1 P2:Nat->Value->Prop} {S1 S2:Nat->Heap->Prop} {a b:Value} {Q:Option Value->Shared->Prop} (Z:YT z TI TO i1 i2 f1 f2) (D1:Draws prog w A.in1 i1 f1 n1 P1 S1) (D2:Draws prog w A.in1 i2 f2 n2 P2 S2)
  (hz:IsZip s.heap z TI TO .none) (hi:IsPair s.heap TI (.ref i1) (.ref i2)) (ho:IsPair s.heap TO a b) (s1:S1 k s.heap) (s2:S2 k s.heap) (k1:k<n1) (k2:k<n2)
  (q:∀x y h' tk,P1 k x->P2 k y->IsZip h' z TI TO (rawInt s.heap.objs.size)->IsPair h' TO x y->S1 (k+1) h'->S2 (k+1) h'->IsPair h' s.heap.objs.size x y->h'.objs.size=s.heap.objs.size+1->(∀c o,c≠z->c≠TO->c≠i1->c≠i2->s.heap.get? c=some o->h'.get? c=some o)->Q (some (.ref s.heap.objs.size)) { s with heap:=h',toks:=tk }) :
  wpAny (model prog w) A (pyNext (.ref z)) Q E s:=by
 have ty:s.TypeIs (.ref z) "zip" := ⟨_,hz,rfl⟩
 unfold pyNext
 refine aQ (wpAny_attempt (Ma (name:=Str.ofString "__next__") ty F.slot_zip_next (vK F.slot_zip_next ty F.entry_zip_next ?_ (F.args_zip_next_1 _))))
 exact Ov Z D1 D2 hz hi ho s1 s2 k1 k2 fun x y h' tk p1 p2 v1 v2 v3 v4 v5 v6 v7=>bU (q x y h' tk p1 p2 v1 v2 v3 v4 v5 v6 v7)
theorem Sy {z TI TO i1 i2:Addr} {f1 f2:List Addr} {n1 n2 k:Nat} {P1 P2:Nat->Value->Prop} {S1 S2:Nat->Heap->Prop} {a b:Value} {Q:Option Value->Shared->Prop} (Z:YT z TI TO i1 i2 f1 f2) (D1:Draws prog w A.in1 i1 f1 n1 P1 S1) (D2:Draws prog w A.in1 i2 f2 n2 P2 S2)
  (hz:IsZip s.heap z TI TO .none) (hi:IsPair s.heap TI (.ref i1) (.ref i2)) (ho:IsPair s.heap TO a b) (s1:S1 k s.heap) (s2:S2 k s.heap) (kk:k=n1\/(k<n1/\k=n2))
  (q:∀h' tk,(∀c o,c≠z->c≠TO->c≠i1->c≠i2->s.heap.get? c=some o->h'.get? c=some o)->Q none { s with heap:=h',toks:=tk }):wpAny (model prog w) A (pyNext (.ref z)) Q E s:=by
 have ty:s.TypeIs (.ref z) "zip" := ⟨_,hz,rfl⟩
 unfold pyNext
 refine aQ (wpAny_attempt (Ma (name:=Str.ofString "__next__") ty F.slot_zip_next (vK F.slot_zip_next ty F.entry_zip_next ?_ (F.args_zip_next_1 _))))
 refine La Z D1 D2 hz hi ho s1 s2 kk fun h' e k hx tk=>?_
 obtain⟨o,g,c⟩:=hx
 exact aQ (wpAny_isInstance (T:="StopIteration") (b:=true) ⟨o,g,c⟩ isSubtype_stop (bU (q _ tk k)))
end
abbrev zA2 (h:Heap) (t1 t2:Addr):Heap:=tiH (tiH h t1) t2
abbrev zA3 (h:Heap) (t1 t2:Addr):Heap:=(zA2 h t1 t2).push { cls:=.type "tuple",data:=.seq #[.ref h.objs.size,.ref (tiH h t1).objs.size] }
abbrev zA4 (h:Heap) (t1 t2:Addr):Heap:=(zA3 h t1 t2).push { cls:=.type "tuple",data:=.seq #[.none,.none] }
abbrev WM (h:Heap) (t1 t2:Addr):Heap:=(zA4 h t1 t2).push { cls:=.type "zip",data:=.fields #[.none,.bool false,.bool false,.ref (zA2 h t1 t2).objs.size,.ref (zA3 h t1 t2).objs.size] }
theorem Uw (t1 t2:Addr) (xs ys:Array Value):Meets (Builtin.«zip.__new__» ⟨[.type "zip",.ref t1,.ref t2],[]⟩) (fun _ R s=>s.heap.IsTuple t1 xs/\s.heap.IsTuple t2 ys/\R (.ok (.ret (.ref (zA4 s.heap t1 t2).objs.size))) { s with heap:=WM s.heap t1 t2 }):=
 .of_wp fun prog w A R s z=>by
  obtain⟨hp,g,d,tk,os⟩:=s
  obtain⟨hx,hy,z⟩:=z
  have sub:=sub_zip
  have hX:Heap.IsTuple (Shared.heap ⟨hp,g,d,tk,os⟩) t1 xs:=hx
  have hY:Heap.IsTuple (Shared.heap ⟨tiH hp t1,g,d,tk,os⟩) t2 ys:=hy.push _
  wp_walk using Lx hX,Lx hY
  exact⟨_,rfl,z⟩
theorem Nu {prog:Program} {w:World} {A:Around} {E:Value->Shared->Prop} {s:Shared} {t1 t2:Addr} {xs ys:Array Value} {Q:Value->Shared->Prop} (hx:s.heap.IsTuple t1 xs) (hy:s.heap.IsTuple t2 ys)
  (q:∀h',IsZip h' (s.heap.objs.size+4) (s.heap.objs.size+2) (s.heap.objs.size+3) .none->IsPair h' (s.heap.objs.size+2) (.ref s.heap.objs.size) (.ref (s.heap.objs.size+1))->IsPair h' (s.heap.objs.size+3) .none .none ->
   h'.IsTupleIter s.heap.objs.size t1 0->h'.IsTupleIter (s.heap.objs.size+1) t2 0->(∀c o,s.heap.get? c=some o->h'.get? c=some o)->Q (.ref (s.heap.objs.size+4)) { s with heap:=h' }) :
  wpAny (model prog w) A (call (.type "zip") [.ref t1,.ref t2]) Q E s:=by
 have n1:(tiH s.heap t1).objs.size=s.heap.objs.size+1:=jP ..
 have n2:(zA2 s.heap t1 t2).objs.size=s.heap.objs.size+2:=by rw[jP,n1]
 have n3:(zA3 s.heap t1 t2).objs.size=s.heap.objs.size+3:=by rw[jP,n2]
 have n4:(zA4 s.heap t1 t2).objs.size=s.heap.objs.size+4:=by rw[jP,n3]
 have up:∀c o,s.heap.get? c=some o->(WM s.heap t1 t2).get? c=some o:=fun c o e=>eO _ (eO _ (eO _ (eO _ (eO _ e))))
 have v5:(WM s.heap t1 t2).get? (zA4 s.heap t1 t2).objs.size=some _:=dM _ rfl
 have v4:(WM s.heap t1 t2).get? (zA3 s.heap t1 t2).objs.size=some _:=eO _ (dM _ rfl)
 have v3:(WM s.heap t1 t2).get? (zA2 s.heap t1 t2).objs.size=some _:=eO _ (eO _ (dM _ rfl))
 have v2:(WM s.heap t1 t2).get? (tiH s.heap t1).objs.size=some _:=eO _ (eO _ (eO _ (dM _ rfl)))
 have v1:(WM s.heap t1 t2).get? s.heap.objs.size=some _:=eO _ (eO _ (eO _ (eO _ (dM _ rfl))))
 refine callType_new F.called_zip (by decide) (F.typeCall_zip_2 _ _) (F.newCall_zip_2 _ _) (fun x=>F.args_object_init_3 x _ _) F.entry_zip_new (Uw t1 t2 xs ys) ⟨hx,hy,?_⟩
 show _/\_
 rw[n2,n3,n4] at v5
 rw[n1,n2] at v3
 rw[n3] at v4
 rw[n1] at v2
 rw[n4]
 exact⟨⟨_,v5,rfl⟩,q _ v5 v3 v4 ⟨_,v1,rfl,rfl⟩ ⟨_,v2,rfl,rfl⟩ up⟩
theorem Inv.Bg {X:Cx} {pins:List (Addr×Obj)} {σ:St} {H:Hp} {s:Shared} {h':Heap} {t':Nat} {fp:List Addr} (I:Inv X pins σ H s) (k:∀b o,b∉fp->s.heap.get? b=some o->h'.get? b=some o) (hf:∀b∈fp,gG X pins H b) :
  Inv X pins σ H { s with heap:=h',toks:=t' }:=by
 have ni:∀b u,H b=some u->b∉fp:=fun b u q hb=>by rw[(hf b hb).1] at q; cases q
 refine I.step (g':=s.gens) (d':=s.drawn) (ch:=fp) (fun b hb=>?_) (fun b o _ _ hc q _=>k b o hc q) (fun b o _ _ hc q _=>⟨o.slots,k b o hc q⟩) (fun _ _ _ _ n=>n) (fun b o hc q=>⟨o,k b o hc q⟩) (fun _ _ q=>q) (fun _ _ _ q=>q)
  (fun b ps q=>⟨#[],by rw[q]; simp⟩) (fun m hm=>?_) (fun b u q=>?_) I.bare
 ·obtain⟨_,f1,_,f3,f4,f5⟩:=hf b hb
  exact⟨f3,(hf b hb).2.1,f4,f5⟩
 ·obtain⟨o,es,ep,ho,r⟩:=hm
  exact⟨o,es,ep,k _ o (fun hb=>(hf _ hb).2.1 rfl) ho,r⟩
 ·refine(I.hok b u q).stay (fun c v hc z=>k c v ?_ z) (fun _ z=>z) fun _ _ z=>z
  rcases hc with z | z
  ·rw[z]; exact ni b u q
  ·exact ni c _ z
theorem ZK {X:Cx} {pins:List (Addr×Obj)} {σ:St} {H:Hp} {s:Shared} {a b:Addr} {xs:List V} (I:Inv X pins σ H s) (hq:cG X.K H a xs) (hf:gG X pins H b):a≠b:=fun z=>by
 rcases hq with h | ⟨o,its,n,hk,_⟩
 ·rcases h with h | ⟨o,h⟩ <;> (rw[z,hf.1] at h; cases h)
 ·have e:X.base.get? a=some o:=I.ok.mod.U9 a o hk
  rcases hf.2.2.2.1 with y | y
  ·exact I.ok.Fp a o e (z▸y)
  ·have l:=b_ e
   have m:=I.ok.Om
   rw[z] at l
   exact absurd (kI l (oG m y)) (rP _)
structure Knd where
 Sq:PySem.W.Frag->Hp->Addr->List V->Prop
 It:Heap->Addr->Addr->Nat->Prop
 Pl:Heap->Addr->Array Value->Prop
 obj:∀{h:Heap} {i a:Addr} {n:Nat},It h i a n->∃o,h.get? i=some o/\∀v,o.data≠.cell v
 keep:∀{h h':Heap} {i a:Addr} {n:Nat},It h i a n->(∀o,h.get? i=some o->h'.get? i=some o)->It h' i a n
 inv:∀{X:Cx} {pins:List (Addr×Obj)} {σ:St} {H:Hp} {s:Shared} {a:Addr} {xs:List V},Inv X pins σ H s->Sq X.K H a xs->∃us:List Value,Vals xs us/\Pl s.heap a us.toArray
 inj:∀{X:Cx} {pins:List (Addr×Obj)} {σ:St} {H:Hp} {s:Shared} {a:Addr} {xs ys:List V},Inv X pins σ H s->Sq X.K H a xs->Sq X.K H a ys->xs=ys
 ne:∀{X:Cx} {pins:List (Addr×Obj)} {σ:St} {H:Hp} {s:Shared} {a b:Addr} {xs:List V},Inv X pins σ H s->Sq X.K H a xs->gG X pins H b->a≠b
 dr:∀{prog:Program} {w:World} {A:Around},A.handled=none->∀{i a:Addr},a≠i->∀us:Array Value,Draws prog w A i [i,a] us.size (fun n v=>us[n]?=some v) (fun n h=>It h i a n/\Pl h a us)
def kT:Knd:=⟨fun K=>cG K,fun h i a n=>h.IsTupleIter i a n,fun h a us=>h.IsTuple a us,fun⟨o,g,_,d⟩=>⟨o,g,fun v q=>by rw[d] at q; cases q⟩,fun g k=>g.at k,fun I h=>(I.tuple h).elim fun us p=>⟨us,p.1,p.2.1⟩,fun I h h'=>I.rE h h',fun I h f=>ZK I h f,fun hh _ _ n us=>sU hh n us⟩
def Yy (k1 k2:Knd) (K:PySem.W.Frag) (a b:Addr):It:=
 ⟨fun i H=>∃xs ys x y,k1.Sq K H a xs/\k2.Sq K H b ys/\xs[i]?=some x/\ys[i]?=some y,fun i H v H'=>∃p x y,H p=none/\v=.ref p/\H'=upd H p (.tup [x,y])/\(∀xs,k1.Sq K H a xs->xs[i]?=some x)/\∀ys,k2.Sq K H b ys->ys[i]?=some y,
  fun i H=>∃xs ys,k1.Sq K H a xs/\k2.Sq K H b ys/\(i=xs.length\/(i<xs.length/\i=ys.length))⟩
structure adw (k1 k2:Knd) (z TI TO i1 i2 a b:Addr) (i:Nat) (h:Heap):Prop where
 z:IsZip h z TI TO .none
 p:IsPair h TI (.ref i1) (.ref i2)
 o:∃x y,IsPair h TO x y
 l:k1.It h i1 a i
 r:k2.It h i2 b i
abbrev aaV:=Yy kT kT
theorem yO (k1 k2:Knd) {P:Program} {w:World} {K:PySem.W.Frag} {elts:List Expr} {x1} {tp:Pos} (a b z TI TO i1 i2:Addr) (n1:TI≠z) (n2:TO≠z) (n3:TI≠TO) (n4:i1≠z) (n5:i2≠z) (n6:TO≠i1) (n7:TO≠i2) (n8:i1≠i2) (n9:TI≠i1) (n10:TI≠i2) :
  Turn P w K (.Tuple elts x1 tp) (Yy k1 k2 K a b) [z,TI,TO,i1,i2] z (adw k1 k2 z TI TO i1 i2 a b) where
 mem:=by simp
 obj:=fun i h st c hc=>by
  obtain⟨g1,g2,⟨x,y,g3⟩,g4,g5⟩:=st
  simp only[b7,jQ,or_false] at hc
  rcases hc with rfl | rfl | rfl | rfl | rfl
  ·exact⟨_,g1,fun v q=>by cases q⟩
  ·exact⟨_,g2,fun v q=>by cases q⟩
  ·exact⟨_,g3,fun v q=>by cases q⟩
  ·exact k1.obj g4
  ·exact k2.obj g5
 keep:=fun i h h' st k=>by
  obtain⟨g1,g2,⟨x,y,g3⟩,g4,g5⟩:=st
  exact⟨k z (by simp) _ g1,k TI (by simp) _ g2,⟨x,y,k TO (by simp) _ g3⟩,k1.keep g4 fun o e=>k i1 (by simp) o e,k2.keep g5 fun o e=>k i2 (by simp) o e⟩
 item:=by
  intro X hP hw hK hc i pins s σ H E I hf st hg
  subst hP hw hK
  obtain⟨g1,g2,⟨xo,yo,g3⟩,g4,g5⟩:=st
  obtain⟨xs,ys,x,y,hx,hy,ex,ey⟩:=hg
  obtain⟨us,ru,pu⟩:=k1.inv I hx
  obtain⟨vs,rv,pv⟩:=k2.inv I hy
  obtain⟨u,hu,ru'⟩:=ru.get ex
  obtain⟨v,hv,rv'⟩:=rv.get ey
  have ha:∀c∈[z,TI,TO,i1,i2],a≠c:=fun c hc=>k1.ne I hx (hf c hc)
  have hb:∀c∈[z,TI,TO,i1,i2],b≠c:=fun c hc=>k2.ne I hy (hf c hc)
  have hh:X.A.in1.handled=none:=I.ok.hd hc
  have Z:YT z TI TO i1 i2 [i1,a] [i2,b]:=⟨n1,n2,n3,n4,n5,n6,n7,n8,by simp; exact⟨n4.symm,(ha z (by simp)).symm⟩,by simp; exact⟨n5.symm,(hb z (by simp)).symm⟩,by simp; exact⟨n6,(ha TO (by simp)).symm⟩,by simp; exact⟨n7,(hb TO (by simp)).symm⟩,by simp; exact⟨n8,(hb i1 (by simp)).symm⟩,by simp; exact⟨n8.symm,(ha i2 (by simp)).symm⟩⟩
  refine Wz Z (k1.dr hh (ha i1 (by simp)) us.toArray) (k2.dr hh (hb i2 (by simp)) vs.toArray) g1 g2 g3 (show _/\_ from⟨g4,pu⟩) (show _/\_ from⟨g5,pv⟩) (by have:=(iQ.mp hu).1; simpa using this) (by have:=(iQ.mp hv).1; simpa using this)
   fun u' v' h' tk hu' hv' z1 z2 z3 z4 z5 z6 kk=>?_
  have eu:u'=u:=by
   have:us[i]?=some u':=by simpa using hu'
   rw[hu] at this; exact(Option.some.inj this).symm
  have ev:v'=v:=by
   have:vs[i]?=some v':=by simpa using hv'
   rw[hv] at this; exact(Option.some.inj this).symm
  subst eu ev
  have fr:H s.heap.objs.size=none:=I.hok.fresh (bF _)
  have I1:Inv X pins σ (upd H s.heap.objs.size (.tup [x,y])) { s with heap:=s.heap.push { cls:=.type "tuple",data:=.seq #[u',v'] },toks:=tk }:=
   I.laid (t':=tk) (fun b v z=>eO _ z) (bF _) ⟨(by show 2<=sizeLine; decide),[u',v'],.cons ru' (.cons rv' .nil),⟨_,dM _ rfl,rfl,_,rfl⟩⟩
  have lt:∀c∈[z,TI,TO,i1,i2],c<s.heap.objs.size:=fun c hc=>by
   simp only[b7,jQ,or_false] at hc
   rcases hc with rfl | rfl | rfl | rfl | rfl
   ·exact b_ g1
   ·exact b_ g2
   ·exact b_ g3
   ·obtain⟨o,e,_⟩:=k1.obj g4; exact b_ e
   ·obtain⟨o,e,_⟩:=k2.obj g5; exact b_ e
  have f1:∀c∈[z,TI,TO,i1,i2],gG X pins (upd H s.heap.objs.size (.tup [x,y])) c:=fun c hc=>⟨by rw[aP (fK (lt c hc))]; exact(hf c hc).1,(hf c hc).2⟩
  have I2:Inv X pins σ (upd H s.heap.objs.size (.tup [x,y])) { s with heap:=h',toks:=tk }:=I1.Bg (t':=tk) (fun c o nc e=>by
   have m:∀d∈[z,TI,TO,i1,i2],c≠d:=fun d hd y=>nc (y▸hd)
   by_cases y:c=s.heap.objs.size
   ·subst y
    rw[dM _ rfl] at e
    cases e
    exact z5
   ·rcases Heap.get?_push_cases e with w | w
    ·exact absurd w.1 y
    ·exact kk c o (m z (by simp)) (m TO (by simp)) (m i1 (by simp)) (m i2 (by simp)) w) f1
  have g2':IsPair h' TI (.ref i1) (.ref i2):=kk _ _ n1 n3 n9 n10 g2
  refine⟨_,rfl,wpAny_letOwnedTupleGo_zip z1 fun h2 zz sb=>⟨.ref s.heap.objs.size,_,I2.Bg (fp:=[z,TI,TO,i1,i2]) (t':=tk) (fun c o nc e=>sb.extBut c o (fun y=>nc (by simp[y])) e) f1,rfl,⟨_,x,y,fr,rfl,rfl,fun xs' h=>by rw[k1.inj I h hx]; exact ex,fun ys' h=>by rw[k2.inj I h hy]; exact ey⟩,⟨zz,sb.extBut _ _ n1 g2',⟨_,_,sb.extBut _ _ n2 z2⟩,?_,?_⟩,fun c hc=>(f1 c hc).1⟩⟩
  ·exact k1.keep z3.1 fun o e=>sb.extBut i1 o n4 e
  ·exact k2.keep z4.1 fun o e=>sb.extBut i2 o n5 e
 done:=by
  intro X hP hw hK hc i pins s σ H E I hf st hg
  subst hP hw hK
  obtain⟨g1,g2,⟨xo,yo,g3⟩,g4,g5⟩:=st
  obtain⟨xs,ys,hx,hy,hl⟩:=hg
  obtain⟨us,ru,pu⟩:=k1.inv I hx
  obtain⟨vs,rv,pv⟩:=k2.inv I hy
  have ha:∀c∈[z,TI,TO,i1,i2],a≠c:=fun c hc=>k1.ne I hx (hf c hc)
  have hb:∀c∈[z,TI,TO,i1,i2],b≠c:=fun c hc=>k2.ne I hy (hf c hc)
  have hh:X.A.in1.handled=none:=I.ok.hd hc
  have Z:YT z TI TO i1 i2 [i1,a] [i2,b]:=⟨n1,n2,n3,n4,n5,n6,n7,n8,by simp; exact⟨n4.symm,(ha z (by simp)).symm⟩,by simp; exact⟨n5.symm,(hb z (by simp)).symm⟩,by simp; exact⟨n6,(ha TO (by simp)).symm⟩,by simp; exact⟨n7,(hb TO (by simp)).symm⟩,by simp; exact⟨n8,(hb i1 (by simp)).symm⟩,by simp; exact⟨n8.symm,(ha i2 (by simp)).symm⟩⟩
  have l1:=ru.length
  have l2:=rv.length
  refine Sy Z (k1.dr hh (ha i1 (by simp)) us.toArray) (k2.dr hh (hb i2 (by simp)) vs.toArray) g1 g2 g3 (show _/\_ from⟨g4,pu⟩) (show _/\_ from⟨g5,pv⟩) (by simp; omega) fun h' tk kk=>⟨rfl,I.Bg (fp:=[z,TI,TO,i1,i2]) (t':=tk) (fun c o nc e=>?_) hf⟩
  have m:∀d∈[z,TI,TO,i1,i2],c≠d:=fun d hd y=>nc (y▸hd)
  exact kk c o (m z (by simp)) (m TO (by simp)) (m i1 (by simp)) (m i2 (by simp)) e
 self:=fun _ _ _ _ _ st h=>wpAny_pyIter_zip st.z h
section
variable {X:Cx}
def FT (K:PySem.W.Frag) (ta:TA):TI:=fun σ H R=>ta σ H fun vs H1=>∃a b,vs=[.ref a,.ref b]/\(∃xs,cG K H1 a xs)/\(∃ys,cG K H1 b ys)/\R (aaV K a b) H1
theorem qy {K:PySem.W.Frag} {e e':Expr} {elts:List Expr} {x1} {tp p pos:Pos} {ta:TA} (hK:X.K=K) (hm:X.mg "zip" = none) (ha:PA X [e,e'] ta) (hg:Gl X "zip" := by rfl) (h1:cC e=true:=by rfl) (h2:cC e'=true:=by rfl) :
  PI X (.Tuple elts x1 tp) (.Call (.Name "zip" p) [e,e'] [] pos) (FT K ta):=by
 subst hK
 refine .mk ?_
 intro pins s σ H R I h
 refine rY (iR I hg hm R0 ?_ (by decide) (by decide))
 refine PyProof.Rows.callWith_type1 (cQ (ha pos pins s σ H _ I h) fun us s1 ⟨vs,H1,I1,r1,q1⟩=>?_) (cR h1) (cL (es:=[e']) (by simp[h2]))
 obtain⟨a,b,rfl,⟨xs,hx⟩,⟨ys,hy⟩,q⟩:=q1
 obtain⟨u,v,rfl,ru,rv⟩:=r1.two
 cases ru
 cases rv
 obtain⟨us,_,pu,_⟩:=I1.tuple hx
 obtain⟨ws,_,pw,_⟩:=I1.tuple hy
 refine Nu (show s1.heap.IsTuple a us.toArray from pu) (show s1.heap.IsTuple b ws.toArray from pw) fun h' hz hp ho h1 h2 kk=>?_
 have I2:Inv X pins σ H1 { s1 with heap:=h' }:=I1.kept (t':=s1.toks) kk
 have fr:∀n,H1 (s1.heap.objs.size+n)=none:=fun n=>I1.hok.fresh (Jy _ _)
 have fk:∀n,gG X pins H1 (s1.heap.objs.size+n):=fun n=>I1.uq (Jy _ _) (fr n)
 have ne:∀i j:Nat,i≠j->s1.heap.objs.size+i≠s1.heap.objs.size+j:=fun i j n e=>n (Nat.add_left_cancel e)
 refine wpAny_pyIter_zip hz ⟨s1.heap.objs.size+4,_,_,aaV X.K a b,H1,rfl,I2,yO kT kT a b (s1.heap.objs.size+4) (s1.heap.objs.size+2) (s1.heap.objs.size+3) s1.heap.objs.size (s1.heap.objs.size+1) (ne _ _ (by decide)) (ne _ _ (by decide)) (ne _ _ (by decide)) (ne 0 _ (by decide)) (ne _ _ (by decide)) (ne _ 0 (by decide)) (ne _ _ (by decide)) (ne 0 _ (by decide)) (ne _ 0 (by decide)) (ne _ _ (by decide)),⟨hz,hp,⟨_,_,ho⟩,h1,h2⟩,fun c hc=>?_,q⟩
 simp only[b7,jQ,or_false] at hc
 rcases hc with rfl | rfl | rfl | rfl | rfl
 ·exact fk 4
 ·exact fk 2
 ·exact fk 3
 ·exact fk 0
 ·exact fk 1
end
abbrev two (elt t1 i1 t2 i2:Expr) (sc:Scope) (pos:Pos):Expr:=.ListComp elt [⟨t1,i1,[],0⟩,⟨t2,i2,[],0⟩] sc pos
theorem S9 (elt t1 i1 t2 i2:Expr) (sc:Scope) (pos:Pos) (it acc:Value) (env:Env) :
  compTurn (two elt t1 i1 t2 i2 sc pos) 1 it acc env=(standAt i2.pos >>= fun _=>pyNext it >>= fun r=>match r with
   | none=>pure (.done .next)
   | some v=>letOwnedTupleGo t2 it v >>= fun _=>assign t2 env v >>= fun _=>(eval elt env >>= fun x=>call (.builtin "list.append") [acc,x] >>= fun _=>pure ()) >>= fun _=>again (.compLoop (two elt t1 i1 t2 i2 sc pos) 1 it acc env)):=by rfl
theorem O5 (elt t1 i1 t2 i2:Expr) (sc:Scope) (pos:Pos) (it acc:Value) (env:Env) :
  compTurn (two elt t1 i1 t2 i2 sc pos) 0 it acc env=(do
   standAt i1.pos
   match <- pyNext it with
   | none=>pure (.done .next)
   | some v=>
    letOwnedTupleGo t1 it v
    assign t1 env v
    let mut ok:=true
    for c in([]:List Expr) do
     if ok then ok <- isTrue c env (eval c env)
    if ok then
     let x <- eval i2 env
     standAt i2.pos
     let y <- foldedSetIterable i2 env x
     let _ <- runOwn (.compStart (two elt t1 i1 t2 i2 sc pos) 1 (<- holding [y] (pyIter y)) acc env) env
    again (.compLoop (two elt t1 i1 t2 i2 sc pos) 0 it acc env)):=by rfl
section
variable {prog:Program} {w:World} {A:Around} {R:Result->Shared->Prop} {s:Shared} {elt t1 i1 t2 i2:Expr} {sc:Scope} {pos:Pos} {it acc:Value} {env:Env}
theorem UG (Iv:Nat->Shared->Prop)
  (turn:∀n s,Iv n s->wpAny (model prog w) A (pyNext it) (fun r s1=>match r with
   | none=>R (.ok .next) s1
   | some v=>wpAny (model prog w) A (letOwnedTupleGo t2 it v) (fun _ s2=>wpAny (model prog w) A (assign t2 env v) (fun _ s3=>wpAny (model prog w) A (eval elt env) (fun x s4=>
     wpAny (model prog w) A (call (.builtin "list.append") [acc,x]) (fun _ s5=>∃m,m<n/\Iv m s5) (fun _ _=>False) s4) (fun _ _=>False) s3) (fun _ _=>False) s2) (fun _ _=>False) s1) (fun _ _=>False) s)
  (n:Nat) (h:Iv n s):codeAny (model prog w) A (.compLoop (two elt t1 i1 t2 i2 sc pos) 1 it acc env) R s:=by
 refine codeAny_loop rfl Iv (fun n s hI=>?_) n h
 show wpAny _ _ ((compTurn (two elt t1 i1 t2 i2 sc pos) 1 it acc env).onRaise (fun x=>do noteFrame x env; theTreesLotGoes x)) _ _ s
 refine wpAny_noted ?_
 rw[S9]
 refine aQ (Bv (aQ (gm (turn n s hI) (fun r s1 q1=>?_) fun _ _ f=>f.elim)))
 cases r with
 | none=>exact bU q1
 | some v=>exact aQ (gm q1 (fun _ s2 q2=>aQ (gm q2 (fun _ s3 q3=>aQ (aQ (gm q3 (fun x s4 q4=>aQ (gm q4 (fun _ s5 q5=>bU (bU ⟨rfl,q5⟩)) fun _ _ f=>f.elim)) fun _ _ f=>f.elim))) fun _ _ f=>f.elim)) fun _ _ f=>f.elim)
theorem Q6 (hs:∀x,foldedSetIterable i2 env x=pure x) (Iv:Nat->Shared->Prop)
  (turn:∀n s,Iv n s->wpAny (model prog w) A (pyNext it) (fun r s1=>match r with
   | none=>R (.ok .next) s1
   | some v=>wpAny (model prog w) A (letOwnedTupleGo t1 it v) (fun _ s2=>wpAny (model prog w) A (assign t1 env v) (fun _ s3=>wpAny (model prog w) A (eval i2 env) (fun x s4=>wpAny (model prog w) A (pyIter x) (fun j s5=>
     codeAny (model prog w) A (.compStart (two elt t1 i1 t2 i2 sc pos) 1 j acc env) (fun r s6=>match r with | .ok _=>∃m,m<n/\Iv m s6 | .error _=>False) s5) (fun _ _=>False) s4) (fun _ _=>False) s3) (fun _ _=>False) s2) (fun _ _=>False) s1) (fun _ _=>False) s)
  (n:Nat) (h:Iv n s):codeAny (model prog w) A (.compLoop (two elt t1 i1 t2 i2 sc pos) 0 it acc env) R s:=by
 refine codeAny_loop rfl Iv (fun n s hI=>?_) n h
 show wpAny _ _ ((compTurn (two elt t1 i1 t2 i2 sc pos) 0 it acc env).onRaise (fun x=>do noteFrame x env; theTreesLotGoes x)) _ _ s
 refine wpAny_noted ?_
 rw[O5]
 refine aQ (Bv (aQ (gm (turn n s hI) (fun r s1 q1=>?_) fun _ _ f=>f.elim)))
 cases r with
 | none=>exact bU q1
 | some v=>
  refine aQ (gm q1 (fun _ s2 q2=>aQ (gm q2 (fun _ s3 q3=>?_) fun _ _ f=>f.elim)) fun _ _ f=>f.elim)
  refine aQ (gm (wpAny_tests_nil (Q:=fun ok s'=>ok=true/\s'=s3) ⟨rfl,rfl⟩) (fun ok s' z=>?_) fun _ _ f=>f)
  obtain⟨rfl,rfl⟩:=z
  simp only[if_true]
  refine aQ (gm q3 (fun x s4 q4=>aQ (Bv ?_)) fun _ _ f=>f.elim)
  refine aQ (ud (hs x) (aQ (rQ (gm q4 (fun j s5 q5=>?_) fun _ _ f=>f.elim))))
  refine aQ (wpAny_runOwn ?_)
  refine codeAny_mono q5 fun r s6 z=>?_
  cases r with
  | ok f=>exact bU ⟨rfl,z⟩
  | error e=>exact z.elim
theorem Pj (h0:codeAny (model prog w) A (.compLoop (two elt t1 i1 t2 i2 sc pos) 1 it acc env) R s)
  (h:wpAny (model prog w) A (pyIter it) (fun j s'=>codeAny (model prog w) A (.compLoop (two elt t1 i1 t2 i2 sc pos) 1 j acc env) R s') (fun _ _=>False) s):codeAny (model prog w) A (.compStart (two elt t1 i1 t2 i2 sc pos) 1 it acc env) R s:=by
 refine codeAny_of_tree ?_
 show wpAny _ _ ((compStart (two elt t1 i1 t2 i2 sc pos) 1 it acc env).onRaise (fun x=>do noteFrame x env; standAt theWindowsPlace)) _ _ s
 refine wpAny_notedAt ?_; unfold compStart
 show wpAny _ _ (ask >>= _) _ _ s; refine aQ (wpAny_askSetting (wpAny_ite ?_))
 split
 ·exact aQ (bU (bU ⟨rfl,h0⟩))
 ·refine aQ (qw ?_); show wpAny _ _ (standAt i2.pos >>= _) _ _ s
  exact aQ (Bv (aQ (gm h (fun j s' z=>bU ⟨rfl,z⟩) fun _ _ f=>f.elim)))
end
def Hb (js:List Nat) (wi wj:TI) (te:TE):TE:=fun σ H Q=>wi σ H fun J H1=>∀acc,H1 acc=none->∃W:Nat->Nat->List V->Hp->Prop,(∃m,W 0 m [] (upd H1 acc (.lst [])))/\∀i m ys H2,W i m ys H2 ->
 (J.stop i H2/\Q (.ref acc) H2)\/(J.go i H2/\∀x H3,J.xU i H2 x H3->wj (some x::none::bW js σ) H3 fun L H4=>∃U:Nat->Nat->List V->Hp->Prop,(∃k,U 0 k ys H4)/\∀j k zs H5,U j k zs H5 ->
  (L.stop j H5/\∃m',m'<m/\W (i+1) m' zs H5)\/(L.go j H5/\∀y H6,L.xU j H5 y H6->te (some x::some y::bW js σ) H6 fun v H7=>H7 acc=some (.lst zs)/\zs.length<sizeLine/\∃k',k'<k/\U (j+1) k' (zs++[v]) (upd H7 acc (.lst (zs++[v])))))
theorem Im {X:Cx} {elt i1 i2:Expr} {x1 x2:Str} {p1 p2 pos:Pos} {sc:Scope} {wi wj:TI} {te:TE} {N':List Str} {js:List Nat} {use:Option (Value->Sem Unit)} {Qc:Value->Shared->Prop} {pins:List (Addr×Obj)} {s:Shared} {σ:St} {H:Hp} {Q:VK} {kp:Pos} (hc:X.calm=true) (hi:PI X (.Name x1 p1) i1 wi) (S:j6 X 2 N' js sc)
  (h0:N'[0]?=some x1) (h1':N'[1]?=some x2) (nd:N'.Nodup) (l1:sc.names.lookup x1=some .local) (l2:sc.names.lookup x2=some .local) (hj:∀fp s H,PI (pK X N' sc fp s H) (.Name x2 p2) i2 wj) (he:∀fp s H,PE (pK X N' sc fp s H) elt te) (hs:∀x,foldedSetIterable i1 X.env x=pure x) (hs2:∀fp s H x,foldedSetIterable i2 (pK X N' sc fp s H).env x=pure x) (I:Inv X pins σ H s) (h:Hb js wi wj te σ H Q)
  (fin:∀(acc C:Addr) (H':Hp) (s':Shared),Inv X pins σ H' s'->gG X pins H' C->(∃m,s'.heap.Ns C m)->Q (.ref acc) H'->compPost (model X.prog X.w) X.A X.xe use Qc (.ref acc) C (.ok .next) s') :
  wpAny (model X.prog X.w) X.A (comprehension (two elt (.Name x1 p1) i1 (.Name x2 p2) i2 sc pos) sc X.env kp (newList []) false (eval i1 X.env) use) Qc X.xe s:=by
 refine wpAny_comprehension_free (use:=use) rfl hs S.clos S.kind S.names ?_
 refine cQ (hi pins s σ H _ I h) fun v s1 q1=>cQ q1 fun itv s2 q2=>?_
 obtain⟨it,fp,tn,J,H2,e,I2,T,st2,f2,q3⟩:=q2
 subst e
 refine uf ?_
 obtain⟨W,⟨m0,w0⟩,turn⟩:=q3 s2.heap.objs.size I2.fresh
 have I3:=I2.UJ (ys:=[]) (its:=[]) (t':=s2.toks) .nil (fQ _)
 have lt2:∀b∈fp,b<s2.heap.objs.size:=fun b hb=>by
  obtain⟨o,ho,_⟩:=T.obj 0 _ st2 b hb
  exact b_ ho
 generalize e3:({ s2 with heap:=s2.heap.push { cls:=.type "list",data:=.seq ([]:List Value).toArray },toks:=s2.toks }:Shared)=s3 at I3
 have e3':({ s2 with heap:=s2.heap.push { cls:=.type "list",dict:=none,data:=.seq ([]:List Value).toArray } }:Shared)=s3:=e3
 have sz3:s3.heap.objs.size=s2.heap.objs.size+1:=by rw[<- e3]; exact jP ..
 have st3:tn 0 s3.heap:=T.keep 0 _ _ st2 fun b hb o ho=>by rw[<- e3]; exact eO _ ho
 have lt3:∀b∈fp,b<s3.heap.objs.size:=fun b hb=>by rw[sz3]; exact zN (lt2 b hb)
 have f3:∀b∈fp,gG X pins (upd H2 s2.heap.objs.size (.lst [])) b:=fun b hb=>⟨by rw[aP (fK (lt2 b hb))]; exact(f2 b hb).1,(f2 b hb).2⟩
 generalize hH3:upd H2 s2.heap.objs.size (.lst [])=H3 at I3 f3 w0
 refine wpAny_newFunctionEnv S.h_ (by intro y hy; simp at hy) (fun h1 hns hsb=>?_) S.kind
 have hk:∀b o,s3.heap.get? b=some o->h1.get? b=some o:=fun b o q=>hsb.extBut b o (fK (b_ q)) (eO _ q)
 have hns':h1.Ns s3.heap.objs.size fun _=>none:=hns
 have I4:Inv (pK X N' sc fp s3 H3) [] (none::none::bW js σ) H3 { s3 with heap:=h1,toks:=s3.toks+([]:List (Str×Value)).length }:=Ng (nt:=2) I3 f3 lt3 S hns' hk
 have ZF:tn 0 h1:=T.keep 0 _ _ st3 fun b hb o ho=>hk b o ho
 have stat:∀{H':Hp},(∀b∈fp,H' b=none)->∀b∈fp,gG (pK X N' sc fp s3 H3) [] H' b:=fun hn b hb=>⟨hn b hb,fK (lt3 b hb),I4.ok.Ij b hb,.inl hb,(I4.ok.exf b hb).2,fun p hp=>absurd (show p∈([]:List (Addr×Obj)) from hp) (by simp)⟩
 have out:∀{σ':St} {H':Hp} {s':Shared},Inv (pK X N' sc fp s3 H3) [] σ' H' s'->Q (.ref s2.heap.objs.size) H'->compPost (model X.prog X.w) X.A X.xe use Qc (.ref s2.heap.objs.size) s3.heap.objs.size (.ok .next) s':=by
  intro σ' H' s' I' q'
  obtain⟨m,hn,_⟩:=id I'.loc
  have I5:Inv X pins σ H' s':=I3.call' I'.os I'.base I'.hok I'.bare fun b hb=>⟨(f3 b hb).2.2.2.1,(f3 b hb).2.1,(f3 b hb).2.2.2.2.1,(f3 b hb).2.2.2.2.2⟩
  exact fin _ _ H' s' I5 (I3.uq (bF _) I'.free) ⟨m,hn⟩ q'
 have loop:∀s4:Shared,s4={ s3 with heap:=h1,toks:=s3.toks+([]:List (Str×Value)).length }->codeAny (model X.prog X.w) X.A (.compLoop (two elt (.Name x1 p1) i1 (.Name x2 p2) i2 sc pos) 0 (.ref it) (.ref s2.heap.objs.size) (compEnvC sc (pM sc X.env) s3.heap.objs.size X.env))
   (compPost (model X.prog X.w) X.A X.xe use Qc (.ref s2.heap.objs.size) s3.heap.objs.size) s4:=by
  rintro s4 rfl
  refine Q6 (hs2 fp s3 H3) (fun n s'=>∃i ys H',Inv (pK X N' sc fp s3 H3) [] (none::none::bW js σ) H' s'/\tn i s'.heap/\(∀b∈fp,H' b=none)/\W i n ys H') ?_ m0 ⟨0,[],H3,I4,ZF,fun b hb=>(f3 b hb).1,w0⟩
  rintro n s5 ⟨i,ys,H5,I5,Tj,Yg,w5⟩
  rcases turn i n ys H5 w5 with⟨stop,qn⟩ | ⟨go,step⟩
  ·refine cQ (T.done (pK X N' sc fp s3 H3) rfl rfl rfl hc i [] s5 _ H5 (fun _ _=>False) I5 (stat Yg) Tj stop) fun r s6 qx=>?_
   obtain⟨hr,I6⟩:=qx
   subst hr
   exact out I6 qn
  ·refine cQ (T.item (pK X N' sc fp s3 H3) rfl rfl rfl hc i [] s5 _ H5 (fun _ _=>False) I5 (stat Yg) Tj go) fun r s6 qx=>?_
   obtain⟨u,hr,q6⟩:=qx
   subst hr
   refine cQ q6 fun _ s7 qx=>?_
   obtain⟨y,H7,I7,r7,y7,Ti,fr7⟩:=qx
   have I7':=I7.pinned (stat fr7) (T.obj _ _ Ti)
   have g1:PG (pK X N' sc fp s3 H3) (.Name x1 p1) (dG 0):=aD nd h0 (.inl (je l1)) (.inr (je l1))
   have g2:PG (pK X N' sc fp s3 H3) (.Name x2 p2) (dG 1):=aD nd h1' (.inl (je l2)) (.inr (je l2))
   refine cQ (g1 _ s7 _ H7 y u (fun σ' H'=>σ'=some y::none::bW js σ/\H'=H7) I7' r7 ⟨rfl,rfl⟩) fun _ s8 qx=>?_
   obtain⟨σ8,H8,I8,e8,e8'⟩:=qx
   subst e8 e8'
   refine cQ (hj fp s3 H3 _ s8 _ _ _ I8 (step y _ y7)) fun v9 s9 q9=>cQ q9 fun itv lB Xj=>?_
   obtain⟨it2,fp2,tn2,L,ux,e10,I10,T2,ZJ,f10,U,⟨k0,u0⟩,Zn⟩:=Xj
   subst e10
   have Ph:∀{H':Hp},(∀b∈fp2,H' b=none)->∀b∈fp2,gG (pK X N' sc fp s3 H3) _ H' b:=fun hn b hb=>⟨hn b hb,(f10 b hb).2⟩
   have Wc:codeAny (model X.prog X.w) X.A (.compLoop (two elt (.Name x1 p1) i1 (.Name x2 p2) i2 sc pos) 1 (.ref it2) (.ref s2.heap.objs.size) (compEnvC sc (pM sc X.env) s3.heap.objs.size X.env))
     (fun r s6=>match r with | .ok _=>∃m,m<n/\∃i ys H',Inv (pK X N' sc fp s3 H3) [] (none::none::bW js σ) H' s6/\tn i s6.heap/\(∀b∈fp,H' b=none)/\W i m ys H' | .error _=>False) lB:=by
    refine UG (fun k s'=>∃j zs H',Inv (pK X N' sc fp s3 H3) _ (some y::none::bW js σ) H' s'/\tn2 j s'.heap/\(∀b∈fp2,H' b=none)/\U j k zs H') ?_ k0 ⟨0,ys,ux,I10,ZJ,fun b hb=>(f10 b hb).1,u0⟩
    rintro k GF ⟨j,zs,xQ,I11,ZG,aaC,w11⟩
    rcases Zn j k zs xQ w11 with⟨Zz,m',hm,qn2⟩ | ⟨go2,ZD⟩
    ·refine cQ (T2.done (pK X N' sc fp s3 H3) rfl rfl rfl hc j _ GF _ xQ (fun _ _=>False) I11 (Ph aaC) ZG Zz) fun r s12 qx=>?_
     obtain⟨hr,I12⟩:=qx
     subst hr
     refine⟨m',hm,i+1,zs,xQ,(I12.iz).weak rfl fun q v e=>?_,T.keep _ _ _ Ti fun b hb o e=>(I12.pin (b,o) (iY _ (iY _ (dz hb e)))).1,fun b hb=>?_,qn2⟩
     ·cases q with
      | zero=>simp at e
      | succ q=>simpa using e
     ·obtain⟨o,e,d⟩:=T.obj _ _ Ti b hb
      exact(I12.pin (b,o) (iY _ (iY _ (dz hb e)))).2.1
    ·refine cQ (T2.item (pK X N' sc fp s3 H3) rfl rfl rfl hc j _ GF _ xQ (fun _ _=>False) I11 (Ph aaC) ZG go2) fun r s12 qx=>?_
     obtain⟨u2,hr,q12⟩:=qx
     subst hr
     refine cQ q12 fun _ nP qx=>?_
     obtain⟨y2,Ou,I13,r13,y13,W4,acF⟩:=qx
     have adE:=I13.pinned (Ph acF) (T2.obj _ _ W4)
     refine cQ (g2 _ nP _ Ou y2 u2 (fun σ' H'=>σ'=some y::some y2::bW js σ/\H'=Ou) adE r13 ⟨rfl,rfl⟩) fun _ Jw qx=>?_
     obtain⟨σ14,YB,I14,Oh,adm⟩:=qx
     subst Oh adm
     refine cQ (he fp s3 H3 _ Jw _ _ _ I14 (ZD y2 _ y13)) fun z Sg qx=>?_
     obtain⟨vz,Vt,I15,r15,ha,hz,k',hk',w15⟩:=qx
     refine cQ (fZ (X:=pK X N' sc fp s3 H3) _ Sg _ Vt (.ref s2.heap.objs.size) [vz] (.ref s2.heap.objs.size) [z] (fun _ H'=>H'=upd Vt s2.heap.objs.size (.lst (zs++[vz]))) I15 rfl (.cons r15 .nil) ⟨_,zs,vz,rfl,rfl,ha,hz,rfl⟩) fun _ Ea qx=>?_
     obtain⟨_,Wv,I16,_,Ve⟩:=qx
     subst Ve
     refine⟨k',hk',j+1,zs++[vz],_,(I16.iz).weak rfl fun q v e=>?_,T2.keep _ _ _ W4 fun b hb o e=>(I16.pin (b,o) (iY _ (iY _ (dz hb e)))).1,fun b hb=>?_,w15⟩
     ·match q,e with
      | 0,e=>simpa using e
      | 1,e=>simp at e
      | q+2,e=>simpa using e
     ·obtain⟨o,e,d⟩:=T2.obj _ _ W4 b hb
      exact(I16.pin (b,o) (iY _ (iY _ (dz hb e)))).2.1
   exact Pj Wc (T2.self X.A 0 _ _ _ ZJ Wc)
 exact codeAny_compStart_list (loop _ rfl) (T.self X.A 0 _ _ _ ZF (loop _ rfl))
theorem bJ {X:Cx} {K:PySem.W.Frag} {pos:Pos} {es:List Expr} {k:Nat} {t:R5} {n:Nat} (hK:X.K=K) (hc:X.calm=true) (h:Yu X es t)
  (hn:(assignEach es X.env).length=n:=by rfl) (hst:(assignEach es X.env).findIdx? (·.1)=none:=by rfl):PG X (.Tuple es k pos) (Ga K n t):=by
 subst hK
 exact Xo hc h hn hst
theorem i_ {X:Cx} {K:PySem.W.Frag} {tg l:Expr} {tl:TE} (hK:X.K=K) (hl:PE X l tl):PI X tg l (wO K tl):=by
 subst hK
 exact QD hl
theorem mY {X:Cx} {K:PySem.W.Frag} {tg l:Expr} {tl:TE} (hK:X.K=K) (hl:PE X l tl):PI X tg l (wQ K tl):=by
 subst hK
 exact Uc hl
theorem QJ {X:Cx} {elt i1 i2:Expr} {x1 x2:Str} {p1 p2 pos:Pos} {sc:Scope} {wi wj:TI} {te:TE} {N':List Str} {js:List Nat} (hc:X.calm=true) (hi:PI X (.Name x1 p1) i1 wi) (S:j6 X 2 N' js sc)
  (h0:N'[0]?=some x1) (h1':N'[1]?=some x2) (nd:N'.Nodup) (l1:sc.names.lookup x1=some .local) (l2:sc.names.lookup x2=some .local) (hj:∀fp s H,PI (pK X N' sc fp s H) (.Name x2 p2) i2 wj) (he:∀fp s H,PE (pK X N' sc fp s H) elt te) (hs:∀x,foldedSetIterable i1 X.env x=pure x:=by intro _; rfl) (hs2:∀fp s H x,foldedSetIterable i2 (pK X N' sc fp s H).env x=pure x:=by intro _ _ _ _; rfl) :
  PE X (two elt (.Name x1 p1) i1 (.Name x2 p2) i2 sc pos) (Hb js wi wj te):=by
 refine .mk ?_
 intro pins s σ H Q I h
 rw[eval_ListComp]
 refine Im (use:=none) hc hi S h0 h1' nd l1 l2 hj he hs hs2 I h fun acc C H' s' I5 fc ⟨m,hn⟩ q=>?_
 refine⟨m,hn,fun h' sb=>?_⟩
 exact⟨.ref acc,H',I5.turned (it:=C) (t':=s'.toks) (fun b o hb q=>sb.extBut b o hb q) fc.1 fc.2.1 fc.2.2.2.1 fc.2.2.2.2.1 fc.2.2.2.2.2,rfl,q⟩
theorem pL {K:PySem.W.Frag} {js:List Nat} {J:It} {te:TE} {σ:St} {H:Hp} {Q:VK} {acc:Addr} {es:List PyData} (xv yv:Nat->V) (hz:es.length<=sizeLine) (hL:bM es=true) (hacc:H acc=none)
  (go:∀i H',i<es.length->aF H H'->J.go i H') (yl:∀i H' v cZ,i<es.length->aF H H'->J.xU i H' v cZ->∃p,H' p=none/\v=.ref p/\cZ=upd H' p (.tup [xv i,yv i])) (st:∀H',aF H H'->J.stop es.length H')
  (val:∀(i:Nat) e H',es[i]?=some e->aF H H'->∀R:VK,(∀v cZ,aF H' cZ->At cZ e v->R v cZ)->te (some (xv i)::some (yv i)::bW js σ) H' R)
  (fin:∀ys H',aF H H'->H' acc=some (.lst ys)->ak (hid acc H') es ys->Q (.ref acc) H') :
  ∃W:Nat->Nat->List V->Hp->Prop,(∃m,W 0 m [] (upd H acc (.lst [])))/\∀i m ys H2,W i m ys H2 ->
   (J.stop i H2/\Q (.ref acc) H2)\/(J.go i H2/\∀x H3,J.xU i H2 x H3->Ga K 2 (iD (dG 0) (iD (dG 1) wW)) x (List.replicate 2 none++bW js σ) H3 fun σ' H'=>(σ'.drop 2=bW js σ/\σ'.length=(List.replicate 2 (none:Option V)++bW js σ).length)/\pX σ' H' fun b cZ=>
    if b=true then te σ' cZ fun y H4=>H4 acc=some (.lst ys)/\ys.length<sizeLine/\∃m',m'<m/\W (i+1) m' (ys++[y]) (upd H4 acc (.lst (ys++[y]))) else ∃m',m'<m/\W (i+1) m' ys cZ):=by
 refine⟨fun i m ys H2=>m=es.length-i/\i<=es.length/\ak (hid acc H2) (es.take i) ys/\aF H H2/\H2 acc=some (.lst ys),⟨_,rfl,fQ _,ak.nil,aK hacc _,az⟩,?_⟩
 rintro i m ys H2 ⟨rfl,hi,hA,sm,hy⟩
 by_cases hlt:i<es.length
 ·refine .inr ⟨go i H2 hlt sm,fun x H3 y=>?_⟩
  obtain⟨p,fp,rfl,rfl⟩:=yl i H2 x H3 hlt sm y
  refine⟨p,_,rfl,cG.of az,rfl,(show(_=_/\_=_)/\pX _ _ _ from⟨⟨rfl,by simp⟩,?_⟩)⟩
  unfold pX
  simp only[if_true]
  have e1:es[i]?=some es[i]:=fM hlt
  have s3:aF H2 (upd H2 p (.tup [xv i,yv i])):=aK fp _
  refine val i _ _ e1 (sm.trans s3) _ fun v H4 s4 a4=>⟨s4 _ _ (s3 _ _ hy),?_,es.length-(i+1),by omega,rfl,hlt,?_,?_,az⟩
  ·rw[hA.length,jj]; omega
  ·rw[gF,Bw,e1]
   exact ak.append (hA.mono (aF.hid (s3.trans s4))) (ak.cons (At.sH (s4 _ _ (s3 _ _ hy)) _ _ (jo hL e1) a4) ak.nil)
  ·refine fun b o q=>?_
   have nb:b≠acc:=bN q hacc
   rw[aP nb]
   exact s4 _ _ (s3 _ _ (sm _ _ q))
 ·have e:i=es.length:=by omega
  subst e
  rw[pC] at hA
  exact .inl ⟨st _ sm,fin _ _ sm hy hA⟩
theorem Ah {K:PySem.W.Frag} {js:List Nat} {a b:Addr} {xs ys:List V} {es:List PyData} {ta:TA} {te:TE} {σ:St} {H:Hp} {Q:VK} (hl:∀R:List V->Hp->Prop,R [.ref a,.ref b] H->ta σ H R) (ha:H a=some (.tup xs)) (hb:H b=some (.tup ys)) (n1:xs.length=es.length) (n2:ys.length=es.length) (hz:es.length<=sizeLine) (hL:bM es=true)
  (val:∀(i:Nat) x y e H',xs[i]?=some x->ys[i]?=some y->es[i]?=some e->aF H H'->∀R:VK,(∀v cZ,aF H' cZ->At cZ e v->R v cZ)->te (some x::some y::bW js σ) H' R)
  (fin:∀acc zs H',aF H H'->H acc=none->H' acc=some (.lst zs)->ak (hid acc H') es zs->Q (.ref acc) H'):eG 2 js (FT K ta) (Ga K 2 (iD (dG 0) (iD (dG 1) wW))) pX te σ H Q:=by
 refine hl _ ⟨a,b,rfl,⟨xs,cG.of ha⟩,⟨ys,cG.of hb⟩,fun acc hacc=>?_⟩
 have gx:∀i,i<es.length->xs[i]?=some (xs.getD i .non):=fun i hi=>by rw[fJ,fM (by omega)]; rfl
 have gy:∀i,i<es.length->ys[i]?=some (ys.getD i .non):=fun i hi=>by rw[fJ,fM (by omega)]; rfl
 refine pL (es:=es) (fun i=>xs.getD i .non) (fun i=>ys.getD i .non) hz hL hacc (fun i H' hi s=>⟨xs,ys,_,_,cG.of (s _ _ ha),cG.of (s _ _ hb),gx i hi,gy i hi⟩) (fun i H' v cZ hi s y=>?_) (fun H' s=>⟨xs,ys,cG.of (s _ _ ha),cG.of (s _ _ hb),.inl n1.symm⟩) (fun i e H' he s R hR=>?_) fun zs H' s h1 h2=>fin acc zs H' s hacc h1 h2
 ·obtain⟨p,x,y,fp,e1,e2,h1,h2⟩:=y
  have q1:=h1 xs (cG.of (s _ _ ha))
  have q2:=h2 ys (cG.of (s _ _ hb))
  rw[gx i hi] at q1
  rw[gy i hi] at q2
  cases q1
  cases q2
  exact⟨p,fp,e1,e2⟩
 ·have hi:i<es.length:=by
   by_cases z:i<es.length
   ·exact z
   ·rw[E_ (by omega)] at he; cases he
  exact val i _ _ e H' (gx i hi) (gy i hi) he s R hR
theorem Il {K:PySem.W.Frag} {js:List Nat} {a:Addr} {ys:List V} {es:List PyData} {ta:TA} {te:TE} {σ:St} {H:Hp} {Q:VK} (hl:∀R:List V->Hp->Prop,R [.ref a] H->ta σ H R) (hb:H a=some (.tup ys)) (n2:ys.length=es.length) (hz:es.length<=sizeLine) (hL:bM es=true)
  (val:∀(i:Nat) y e H',ys[i]?=some y->es[i]?=some e->aF H H'->∀R:VK,(∀v cZ,aF H' cZ->At cZ e v->R v cZ)->te (some (.int (i:Nat))::some y::bW js σ) H' R)
  (fin:∀acc zs H',aF H H'->H acc=none->H' acc=some (.lst zs)->ak (hid acc H') es zs->Q (.ref acc) H'):eG 2 js (Rp K ta) (Ga K 2 (iD (dG 0) (iD (dG 1) wW))) pX te σ H Q:=by
 refine hl _ ⟨a,rfl,⟨ys,cG.of hb⟩,fun acc hacc=>?_⟩
 have gy:∀i,i<es.length->ys[i]?=some (ys.getD i .non):=fun i hi=>by rw[fJ,fM (by omega)]; rfl
 refine pL (es:=es) (fun i=>.int (i:Nat)) (fun i=>ys.getD i .non) hz hL hacc (fun i H' hi s=>⟨ys,_,cG.of (s _ _ hb),gy i hi⟩) (fun i H' v cZ hi s y=>?_) (fun H' s=>⟨ys,cG.of (s _ _ hb),n2⟩) (fun i e H' he s R hR=>?_) fun zs H' s h1 h2=>fin acc zs H' s hacc h1 h2
 ·obtain⟨p,y,fp,e1,e2,h2⟩:=y
  have q2:=h2 ys (cG.of (s _ _ hb))
  rw[gy i hi] at q2
  cases q2
  exact⟨p,fp,e1,e2⟩
 ·have hi:i<es.length:=by
   by_cases z:i<es.length
   ·exact z
   ·rw[E_ (by omega)] at he; cases he
  exact val i _ e H' (gy i hi) he s R hR
theorem RM {K:PySem.W.Frag} {js:List Nat} {xs:List V} {es:List PyData} {te:TE} {σ:St} {H:Hp} {Q:VK} (hn:es.length=xs.length) (hz:es.length<=sizeLine) (hL:bM es=true)
  (step:∀(i:Nat) x e H',xs[i]?=some x->es[i]?=some e->aF H H'->∀R:VK,(∀v cZ,aF H' cZ->At cZ e v->R v cZ)->te (some x::bW js σ) H' R)
  (fin:∀acc ys H',aF H H'->H acc=none->H' acc=some (.lst ys)->ak (hid acc H') es ys->Q (.ref acc) H'):gK js (wO K (WW K xs)) te σ H Q:=by
 intro a _ ht
 refine⟨a,rfl,⟨xs,ht H⟩,fun acc hacc=>?_⟩
 refine⟨fun i m ys H2=>m=es.length-i/\i<=es.length/\ak (hid acc H2) (es.take i) ys/\aF H H2/\H2 acc=some (.lst ys),⟨_,rfl,fQ _,ak.nil,aK hacc _,az⟩,?_⟩
 rintro i m ys H2 ⟨rfl,hi,hA,sm,hy⟩
 by_cases hlt:i<es.length
 ·refine .inr ⟨⟨xs,xs[i]'(by omega),ht _,fM (by omega)⟩,fun x H3 y=>?_⟩
  obtain⟨e,y⟩:=y
  subst e
  have e1:es[i]?=some es[i]:=fM hlt
  refine step i x _ _ (y xs (ht _)) e1 sm _ fun v H4 s4 a4=>⟨s4 _ _ hy,?_,es.length-(i+1),by omega,rfl,hlt,?_,?_,az⟩
  ·rw[hA.length,jj]; omega
  ·rw[gF,Bw,e1]
   exact ak.append (hA.mono (aF.hid s4)) (ak.cons (At.sH (s4 _ _ hy) _ _ (jo hL e1) a4) ak.nil)
  ·refine fun b o q=>?_
   have nb:b≠acc:=bN q hacc
   rw[aP nb]
   exact s4 _ _ (sm _ _ q)
 ·have e:i=es.length:=by omega
  subst e
  rw[pC] at hA
  exact .inl ⟨⟨xs,ht _,by omega⟩,fin _ _ _ sm hacc hy hA⟩
theorem RN {K:PySem.W.Frag} {js:List Nat} {a:Addr} {xs:List V} {tl tm te:TE} {σ:St} {H:Hp} {Q:VK} (wX:List (List PyData)) (hl:∀R:VK,R (.ref a) H->tl σ H R) (ha:H a=some (.tup xs)) (hA:ak H (wX.map PyData.tuple) xs) (hn:wX.flatten.length<=1000)
  (hm:∀x H' (R:VK),R x H'->tm (some x::none::bW js σ) H' R) (he:∀x y H' (R:VK),R y H'->te (some x::some y::bW js σ) H' R)
  (fin:∀acc ys H',aF H H'->H acc=none->H' acc=some (.lst ys)->ak H wX.flatten ys->Q (.ref acc) H'):Hb js (wO K tl) (wO K tm) te σ H Q:=by
 refine hl _ ⟨a,rfl,⟨xs,cG.of ha⟩,fun acc hacc=>?_⟩
 have hlen:xs.length=wX.length:=by rw[hA.length,bR]
 have tl':∀i,(wX.take i).flatten.length<=wX.flatten.length:=fun i=>by
  have:wX.flatten=(wX.take i).flatten++(wX.drop i).flatten:=by rw[<- List.flatten_append,List.take_append_drop]
  rw[this,fP]; omega
 refine⟨fun i m ys H2=>m=wX.length-i/\i<=wX.length/\ak H (wX.take i).flatten ys/\aF H H2/\H2 acc=some (.lst ys),⟨_,rfl,fQ _,ak.nil,aK hacc _,az⟩,?_⟩
 rintro i m ys H2 ⟨rfl,hi,hA2,sm,hy⟩
 have ht:cG K H2 a xs:=cG.of (sm _ _ ha)
 by_cases hlt:i<wX.length
 ·refine .inr ⟨⟨xs,xs[i]'(by omega),ht,fM (by omega)⟩,fun x H3 y=>?_⟩
  obtain⟨e,y⟩:=y
  subst e
  have hx:=y xs ht
  have e1:wX[i]?=some wX[i]:=fM hlt
  obtain⟨x',hx',ax⟩:=hA.getD (show(wX.map PyData.tuple)[i]?=some (.tuple wX[i]) by rw[gM,e1]; rfl)
  rw[hx] at hx'
  cases hx'
  generalize hds:wX[i]=ds at *
  unfold At at ax
  obtain⟨b,zs,rfl,hb,aB⟩:=ax
  have ef:(wX.take (i+1)).flatten=(wX.take i).flatten++ds:=by rw[Bw,e1]; simp
  refine hm _ _ _ ⟨b,rfl,⟨zs,cG.of (sm _ _ hb)⟩,?_⟩
  refine⟨fun j k ws H5=>k=ds.length-j/\j<=ds.length/\ak H ((wX.take i).flatten++ds.take j) ws/\aF H H5/\H5 acc=some (.lst ws),⟨_,rfl,fQ _,by simpa using hA2,sm,hy⟩,?_⟩
  rintro j k ws H5 ⟨rfl,hj,hA5,sm5,hy5⟩
  have ht5:cG K H5 b zs:=cG.of (sm5 _ _ hb)
  have hzl:=aB.length
  by_cases hjt:j<ds.length
  ·refine .inr ⟨⟨zs,zs[j]'(by omega),ht5,fM (by omega)⟩,fun u H6 yu=>?_⟩
   obtain⟨e,yu⟩:=yu
   subst e
   have hu:=yu zs ht5
   obtain⟨d,hd,au⟩:=aB.get hu
   refine he _ _ _ _ ⟨hy5,bw ?_,ds.length-(j+1),by omega,rfl,hjt,?_,sm5.d7 hacc,az⟩
   ·have:=hA5.length
    rw[fP,jj] at this
    have t2:=tl' (i+1)
    rw[ef,fP] at t2
    omega
   ·rw[Bw,hd,<- vL]
    exact hA5.append (ak.cons au ak.nil)
  ·have ej:j=ds.length:=by omega
   subst ej
   rw[pC] at hA5
   refine .inl ⟨⟨zs,ht5,by omega⟩,wX.length-(i+1),by omega,rfl,hlt,by rw[ef]; exact hA5,sm5,hy5⟩
 ·have e:i=wX.length:=by omega
  subst e
  rw[pC] at hA2
  exact .inl ⟨⟨xs,ht,by omega⟩,fin _ _ _ sm hacc hy hA2⟩
section
variable {X:Cx} {pins:List (Addr×Obj)} {σ:St} {H:Hp} {s:Shared} {A:Around} {E:Value->Shared->Prop} {Q:Value->Shared->Prop} {b:Bool}
theorem H_ {x:V} {u t:Value} {tp:Addr} {its:List Value} (I:Inv X pins σ H s) (rx:RelV x u) (ty:q_ X.K H x t) (htp:IsTup s.heap tp its.toArray) (e:PySem.W.kitAny X.K t its=some b) (h:∀tk,Q (.bool b) { s with toks:=tk }) :
  wpAny (model X.prog X.w) A (call (.builtin "isinstance") [u,.ref tp]) Q E s:=by
 obtain⟨o,ho,hc,n,hd⟩:=htp
 obtain⟨cls,dd,data,sl⟩:=o
 cases hc
 cases hd
 cases ty with
 | non=>cases(show u=Value.none from rx); exact PySem.W.kia_tup PySem.W.kitx_none I.oJ True.intro ho e (fun z=>nomatch z) h
 | bl y=>cases(show u=Value.bool y from rx); exact PySem.W.kia_tup PySem.W.kitx_bool I.oJ True.intro ho e (fun z=>nomatch z) h
 | int i=>obtain⟨t,q⟩:=(show ∃t,u=Value.int i t from rx); cases q; exact PySem.W.kia_tup PySem.W.kitx_int I.oJ True.intro ho e (fun z=>nomatch z) h
 | str y=>obtain⟨t,q⟩:=(show ∃t,u=Value.str y t from rx); cases q; exact PySem.W.kia_tup PySem.W.kitx_str I.oJ True.intro ho e (fun z=>nomatch z) h
 | flt y=>obtain⟨t,q⟩:=(show ∃t,u=Value.float y t from rx); cases q; exact PySem.W.kia_tup PySem.W.kitx_float I.oJ True.intro ho e (fun z=>nomatch z) h
 | @lst a xs ea=>
  cases(show u=Value.ref a from rx)
  obtain⟨_,_,n,_,h1⟩:=(show cz X.prog X.w H s.heap a (.lst xs) from I.hok a _ ea)
  exact PySem.W.kia_tup PySem.W.kitx_list I.oJ ⟨_,h1,rfl⟩ ho e (fun z=>nomatch z) h
 | @Dn a ob xs ea=>
  cases(show u=Value.ref a from rx)
  obtain⟨_,_,_,n,_,h1⟩:=(show cz X.prog X.w H s.heap a (.Dn ob (.lst xs)) from I.hok a _ ea)
  exact PySem.W.kia_tup PySem.W.kitx_list I.oJ ⟨_,h1,rfl⟩ ho e (fun z=>nomatch z) h
 | @tup a xs ea=>
  cases(show u=Value.ref a from rx)
  obtain⟨_,_,_,p⟩:=(show cz X.prog X.w H s.heap a (.tup xs) from I.hok a _ ea)
  obtain⟨o,h1,h2,_⟩:=p
  exact PySem.W.kia_tup PySem.W.kitx_tuple I.oJ ⟨o,h1,h2⟩ ho e (fun z=>nomatch z) h
 | @dK a kvs ea=>
  cases(show u=Value.ref a from rx)
  obtain⟨_,_,vs,_,p⟩:=(show cz X.prog X.w H s.heap a (.dK kvs) from I.hok a _ ea)
  obtain⟨o,es,ep,h1,h2,_⟩:=p
  exact PySem.W.kia_tup PySem.W.kitx_dict I.oJ ⟨o,h1,h2.1⟩ ho e (fun z=>nomatch z) h
 | @dT a kvs ea=>
  cases(show u=Value.ref a from rx)
  obtain⟨_,_,xs,_,o,es,ep,h1,h2,_⟩:=(show cz X.prog X.w H s.heap a (.dT kvs) from I.hok a _ ea)
  exact PySem.W.kia_tup PySem.W.kitx_dict I.oJ ⟨o,h1,h2.1⟩ ho e (fun z=>nomatch z) h
 | @ins a C dx fs ea cl ha hn htk hm=>
  cases(show u=Value.ref a from rx)
  obtain⟨mA,O,_⟩:=Ko I.hok ea
  obtain⟨od,J,_⟩:=O.look
  exact PySem.W.kia_tup (PySem.W.kitx_own (cl.get _) cl.hd ha hn htk hm) I.oJ J ho e (fun z=>nomatch z) h
end
section
variable {X:Cx}
theorem XX (K:PySem.W.Frag) (d:PyData):PySem.W.kitAny K (.type (Sd d)) [.type "list",.type "tuple"]=some (zY d || isTup d):=by
 show(match PySem.W.kitOne K (.type (Sd d)) (.type "list") with | some true=>some true | some false=>(match PySem.W.kitOne K (.type (Sd d)) (.type "tuple") with | some true=>some true | some false=>some false | none=>none) | none=>none)=_
 rw[Kc,Ka]
 cases zY d <;> cases isTup d <;> rfl
theorem X8:cT X (.builtin "isinstance") (fun vs H Q=>∃(v:V) (d:PyData) (p:Addr),vs=[v,.ref p]/\At H d v/\H p=some (.tup [.ty "list",.ty "tuple"])/\Q (.bl (zY d || isTup d)) H):=by
 refine .mk ?_
 intro pins s σ H vs us Q I r h
 obtain⟨v,d,p,rfl,hv,hp,q⟩:=h
 obtain⟨u,t,rfl,ru,rt⟩:=r.two
 cases(show t=Value.ref p from rt)
 obtain⟨_,its,ri,ht⟩:=(show cz X.prog X.w H s.heap p (.tup [.ty "list",.ty "tuple"]) from I.hok p _ hp)
 have e:its=[Value.type "list",Value.type "tuple"]:=by
  obtain⟨a,b,rfl,ra,rb⟩:=ri.two
  cases(show a=Value.type "list" from ra)
  cases(show b=Value.type "tuple" from rb)
  rfl
 subst e
 exact H_ I ru (hv.ty (K:=X.K)) ht (XX X.K d) fun tk=>⟨.bl (zY d || isTup d),H,I.tok tk,rfl,q⟩
end
theorem xj {nt:Nat} {g:TG} {js:List Nat} {J:It} {te:TE} {σ:St} {H:Hp} {Q:VK} {acc:Addr} {es:List PyData} (τ:Nat->St) (hτ:∀i,(τ i).length=nt) (hz:es.length<=sizeLine) (hL:bM es=true) (hacc:H acc=none)
  (go:∀i H',i<es.length->aF H H'->J.go i H')
  (yl:∀i H' v cZ,i<es.length->aF H H'->J.xU i H' v cZ->aF H' cZ/\∀R:St->Hp->Prop,R (τ i++bW js σ) cZ->g v (List.replicate nt none++bW js σ) cZ R) (st:∀H',aF H H'->J.stop es.length H')
  (val:∀(i:Nat) e H',es[i]?=some e->aF H H'->∀R:VK,(∀v cZ,aF H' cZ->At cZ e v->R v cZ)->te (τ i++bW js σ) H' R)
  (fin:∀ys H',aF H H'->H' acc=some (.lst ys)->ak (hid acc H') es ys->Q (.ref acc) H') :
  ∃W:Nat->Nat->List V->Hp->Prop,(∃m,W 0 m [] (upd H acc (.lst [])))/\∀i m ys H2,W i m ys H2 ->
   (J.stop i H2/\Q (.ref acc) H2)\/(J.go i H2/\∀x H3,J.xU i H2 x H3->g x (List.replicate nt none++bW js σ) H3 fun σ' H'=>(σ'.drop nt=bW js σ/\σ'.length=(List.replicate nt (none:Option V)++bW js σ).length)/\pX σ' H' fun b cZ=>
    if b=true then te σ' cZ fun y H4=>H4 acc=some (.lst ys)/\ys.length<sizeLine/\∃m',m'<m/\W (i+1) m' (ys++[y]) (upd H4 acc (.lst (ys++[y]))) else ∃m',m'<m/\W (i+1) m' ys cZ):=by
 refine⟨fun i m ys H2=>m=es.length-i/\i<=es.length/\ak (hid acc H2) (es.take i) ys/\aF H H2/\H2 acc=some (.lst ys),⟨_,rfl,fQ _,ak.nil,aK hacc _,az⟩,?_⟩
 rintro i m ys H2 ⟨rfl,hi,hA,sm,hy⟩
 by_cases hlt:i<es.length
 ·refine .inr ⟨go i H2 hlt sm,fun x H3 y=>?_⟩
  obtain⟨s3,gg⟩:=yl i H2 x H3 hlt sm y
  refine gg _ ⟨⟨?_,?_⟩,?_⟩
  ·rw[List.drop_append_of_le_length (by rw[hτ]; exact bF _),<- hτ i,zM,Hs]
  ·rw[fP,fP,hτ,BK]
  unfold pX
  simp only[if_true]
  have e1:es[i]?=some es[i]:=fM hlt
  refine val i _ _ e1 (sm.trans s3) _ fun v H4 s4 a4=>⟨s4 _ _ (s3 _ _ hy),?_,es.length-(i+1),by omega,rfl,hlt,?_,?_,az⟩
  ·rw[hA.length,jj]; omega
  ·rw[gF,Bw,e1]
   exact ak.append (hA.mono (aF.hid (s3.trans s4))) (ak.cons (At.sH (s4 _ _ (s3 _ _ hy)) _ _ (jo hL e1) a4) ak.nil)
  ·refine fun b o q=>?_
   have nb:b≠acc:=bN q hacc
   rw[aP nb]
   exact s4 _ _ (s3 _ _ (sm _ _ q))
 ·have e:i=es.length:=by omega
  subst e
  rw[pC] at hA
  exact .inl ⟨st _ sm,fin _ _ sm hy hA⟩
theorem sV {K:PySem.W.Frag} {nt:Nat} {g:TG} {js:List Nat} {a b:Addr} {xs ys:List V} {es:List PyData} {ta:TA} {te:TE} {σ:St} {H:Hp} {Q:VK} (τ:Nat->St) (hτ:∀i,(τ i).length=nt) (hl:∀R:List V->Hp->Prop,R [.ref a,.ref b] H->ta σ H R) (ha:H a=some (.tup xs)) (hb:H b=some (.tup ys)) (n1:xs.length=es.length) (n2:ys.length=es.length) (hz:es.length<=sizeLine) (hL:bM es=true)
  (tgt:∀(i:Nat) x y p H',xs[i]?=some x->ys[i]?=some y->aF H H'->H' p=some (.tup [x,y])->∀R:St->Hp->Prop,R (τ i++bW js σ) H'->g (.ref p) (List.replicate nt none++bW js σ) H' R)
  (val:∀(i:Nat) e H',es[i]?=some e->aF H H'->∀R:VK,(∀v cZ,aF H' cZ->At cZ e v->R v cZ)->te (τ i++bW js σ) H' R)
  (fin:∀acc zs H',aF H H'->H acc=none->H' acc=some (.lst zs)->ak (hid acc H') es zs->Q (.ref acc) H'):eG nt js (FT K ta) g pX te σ H Q:=by
 refine hl _ ⟨a,b,rfl,⟨xs,cG.of ha⟩,⟨ys,cG.of hb⟩,fun acc hacc=>?_⟩
 have gx:∀i,i<es.length->xs[i]?=some (xs.getD i .non):=fun i hi=>by rw[fJ,fM (by omega)]; rfl
 have gy:∀i,i<es.length->ys[i]?=some (ys.getD i .non):=fun i hi=>by rw[fJ,fM (by omega)]; rfl
 refine xj (es:=es) τ hτ hz hL hacc (fun i H' hi s=>⟨xs,ys,_,_,cG.of (s _ _ ha),cG.of (s _ _ hb),gx i hi,gy i hi⟩) (fun i H' v cZ hi s y=>?_) (fun H' s=>⟨xs,ys,cG.of (s _ _ ha),cG.of (s _ _ hb),.inl n1.symm⟩) val fun zs H' s h1 h2=>fin acc zs H' s hacc h1 h2
 obtain⟨p,x,y,fp,rfl,rfl,h1,h2⟩:=y
 have q1:=h1 xs (cG.of (s _ _ ha))
 have q2:=h2 ys (cG.of (s _ _ hb))
 exact⟨aK fp _,fun R hR=>tgt i x y p _ q1 q2 (s.trans (aK fp _)) az R hR⟩
theorem Vh {K:PySem.W.Frag} {nt:Nat} {g:TG} {js:List Nat} {a:Addr} {xs:List V} {es:List PyData} {tl te:TE} {σ:St} {H:Hp} {Q:VK} (τ:Nat->St) (hτ:∀i,(τ i).length=nt) (hl:∀R:VK,R (.ref a) H->tl σ H R) (ha:H a=some (.tup xs)) (n1:xs.length=es.length) (hz:es.length<=sizeLine) (hL:bM es=true)
  (tgt:∀(i:Nat) x H',xs[i]?=some x->aF H H'->∀R:St->Hp->Prop,R (τ i++bW js σ) H'->g x (List.replicate nt none++bW js σ) H' R)
  (val:∀(i:Nat) e H',es[i]?=some e->aF H H'->∀R:VK,(∀v cZ,aF H' cZ->At cZ e v->R v cZ)->te (τ i++bW js σ) H' R)
  (fin:∀acc zs H',aF H H'->H acc=none->H' acc=some (.lst zs)->ak (hid acc H') es zs->Q (.ref acc) H'):eG nt js (wO K tl) g pX te σ H Q:=by
 refine hl _ ⟨a,rfl,⟨xs,cG.of ha⟩,fun acc hacc=>?_⟩
 have ht:∀H',aF H H'->cG K H' a xs:=fun H' s=>cG.of (s _ _ ha)
 refine xj (es:=es) τ hτ hz hL hacc (fun i H' hi s=>⟨xs,xs[i]'(by omega),ht H' s,fM (by omega)⟩) (fun i H' v cZ hi s y=>?_) (fun H' s=>⟨xs,ht H' s,by omega⟩) val fun zs H' s h1 h2=>fin acc zs H' s hacc h1 h2
 obtain⟨e,y⟩:=y
 subst e
 exact⟨aF.refl _,fun R hR=>tgt i v _ (y xs (ht _ s)) s R hR⟩
section
variable {X:Cx}
theorem P0 {K:PySem.W.Frag} (hK:X.K=K):Ys X (Qo K):=by subst hK; exact pZ
def O7 (K:PySem.W.Frag) (te:TE) (tp:TO):TE:=fun σ H Q=>te σ H fun x H1=>tp σ H1 fun u H2=>u=some (-1)/\∃(a:Addr) (xs:List V),x=.ref a/\dX K H2 a xs/\∀p,H2 p=none->Q (.ref p) (upd H2 p (.lst xs.reverse))
theorem JR {K:PySem.W.Frag} {e st:Expr} {te:TE} {tp:TO} {pos p2:Pos} (hK:X.K=K) (he:PE X e te) (hp:PO X (some st) tp) (hsub:∀v r,∃ops,subscripted (.Slice none none (some st) p2) false v r=operate ops (getItem v r):=by intro _ _; exact⟨_,by with_unfolding_all rfl⟩):PE X (.Subscript e (.Slice none none (some st) p2) pos) (O7 K te tp):=by
 subst hK
 refine .mk ?_
 intro pins s σ H Q I h
 refine Subscript_ (cQ (he pins s σ H _ I h) fun v s1 qx=>?_)
 obtain⟨x,H1,I1,r1,q1⟩:=qx
 refine wpAny_Slice ?_
 rw[evalPart_none]
 refine bU (bU ?_)
 refine cQ (hp pins s1 σ H1 _ I1 q1) fun vu s3 qx=>?_
 obtain⟨u,H3,I3,pu,q3⟩:=qx
 obtain⟨rfl,a,xs,rfl,hx,q⟩:=q3
 cases r1
 have I4:Inv X pins σ H3 { s3 with heap:=s3.heap.push { cls:=.type "slice",data:=.fields #[.none,.none,vu] } }:=I3.kept (t':=s3.toks) fun b ob q=>eO _ q
 obtain⟨its,r,ht,hz⟩:=I4.list hx
 have hlen:=r.length
 obtain⟨ops,ho⟩:=hsub (.ref a) (.ref s3.heap.objs.size)
 refine tail_any (ops:=ops) ht.isList.typeIs slot_list_getitem.lookup ?_ ho
 refine wpAny_getItem_list_slice ht.isList (Heap.IsSliceOf.new ..) .none .none pu (by simp) ?_ (by rw[fB] <;> omega)
 rw[PySem.W.krv_pick]
 refine⟨.ref _,_,I4.laid (t':=s3.toks) (o:=.lst xs.reverse) (fun b ob q=>eO _ q) (bF _) ?_,rfl,q _ (I4.hok.fresh (bF _))⟩
 exact⟨by rw[List.length_reverse]; exact oG (by omega) hz,_,0,r.reverse,dM _ rfl⟩
end
def aaD:V->Option Str
 | .int i=>if i.natAbs.log2<1920 then some (Str.ofString (toString i)) else none
 | .str z=>some z
 | _=>none
def tFv (te:TE):TE:=fun σ H Q=>te σ H fun x H1=>∃z,aaD x=some z/\z.length<=sizeLine/\Q (.str z) H1
abbrev TJ:=Str->St->Hp->(Str->Hp->Prop)->Prop
section
variable {X:Cx}
theorem V_ {e:Expr} {te:TE} {pos:Pos} (he:PE X e te):PE X (.FormattedValue e (-1) none pos) (tFv te):=by
 refine .mk ?_
 intro pins s σ H Q I h
 refine FormattedValue_plain (cQ (he pins s σ H _ I h) fun v s1 qx=>?_)
 obtain⟨x,H1,I1,r1,z,hz,hl,q⟩:=qx
 cases x with
 | int i=>
  obtain⟨t,rfl⟩:=r1
  by_cases hd:i.natAbs.log2<1920
  ·have e:z=Str.ofString (toString i):=(Option.some.inj ((aL hd).symm.trans hz)).symm
   subst e
   exact formatField_int_small hd ⟨.str _,H1,I1.tok _,⟨_,rfl⟩,q⟩
  ·have e:(none:Option Str)=some z:=(bB hd).symm.trans hz
   cases e
 | str y=>
  obtain⟨t,rfl⟩:=r1
  cases hz
  exact formatField_str (fun t' tk=>⟨.str _,H1,I1.tok _,⟨_,rfl⟩,q⟩) hl
 | _=>cases hz
structure PJ (X:Cx) (es:List Expr) (t:TJ):Prop where
 mk ::
 go:∀(acc:Str) (pins:List (Addr×Obj)) (s:Shared) (σ:St) (H:Hp) (R:Str->Hp->Prop),Inv X pins σ H s->t acc σ H R ->
  Joins (model X.prog X.w) X.A X.xe (evalEach es X.env) acc (fun out s'=>∃H',Inv X pins σ H' s'/\R out H') s
def tJ0:TJ:=fun acc _ H R=>R acc H
def tJ1 (te:TE) (t:TJ):TJ:=fun acc σ H R=>te σ H fun x H1=>∃y,x=.str y/\(acc++y).length<=sizeLine/\t (acc++y) σ H1 R
def tJs (t:TJ):TE:=fun σ H Q=>t Str.empty σ H fun out H'=>out.length<=sizeLine/\Q (.str out) H'
theorem Joins.mono {M:Model} {A:Around} {E:Value->Shared->Prop}:∀{ps:List (Sem Value)} {acc:Str} {Q Q':Str->Shared->Prop} {s:Shared},(∀o s',Q o s'->Q' o s')->Joins M A E ps acc Q s->Joins M A E ps acc Q' s
 | [],_,_,_,_,h,j=>h _ _ j
 | _::_,_,_,_,_,h,j=>gm j (fun _ _ ⟨y,t,e,l,r⟩=>⟨y,t,e,l,Joins.mono h r⟩) fun _ _ e=>e
theorem QB:PJ X [] tJ0:=.mk fun acc pins s σ H R I h=>⟨H,I,h⟩
theorem nR {e:Expr} {es:List Expr} {te:TE} {t:TJ} (he:PE X e te) (hr:PJ X es t):PJ X (e::es) (tJ1 te t):=by
 refine .mk fun acc pins s σ H R I h=>?_
 show wpAny _ _ (eval e X.env) _ _ s
 refine cQ (he pins s σ H _ I h) fun v s1 qx=>?_
 obtain⟨x,H1,I1,r1,y,ex,hl,q⟩:=qx
 subst ex
 obtain⟨t',rfl⟩:=r1
 exact⟨y,t',rfl,hl,hr.go _ pins s1 σ H1 R I1 q⟩
theorem V9 {a b:Expr} {r:List Expr} {t:TJ} {pos:Pos} (h:PJ X (a::b::r) t):PE X (.JoinedStr (a::b::r) pos) (tJs t):=by
 refine .mk fun pins s σ H Q I hw=>?_
 refine wpAny_JoinedStr (Joins.mono ?_ (h.go Str.empty pins s σ H _ I hw))
 rintro o s' ⟨H',I',hl,q⟩
 exact⟨hl,.str o,H',I'.tok _,⟨_,rfl⟩,q⟩
def abK (K:PySem.W.Frag) (ta:TE):TT:=fun σ H Q=>ta σ H fun x H'=>∃k,adx K x H' k/\Q k H'
end
def tx (l:List Nat):Str:=⟨l.toArray⟩
theorem rD (l:List Nat):(tx l).length=l.length:=by show l.toArray.size=_; simp
theorem Zm {z:Str} {l:List Nat} (h:z.cps.toList=l):z=tx l:=by subst h; cases z; simp[tx]
def dg (n:Int):List Nat:=(Nat.toDigits 10 n.toNat).map Char.toNat
theorem W2 {n:Int} (h:0<=n):Str.ofString (toString n)=tx (dg n):=by
 obtain⟨m,rfl⟩:=Int.eq_ofNat_of_zero_le h
 exact Zm (PySem.W.KIN.signs_num m)
theorem RJ {n:Int} {k:Nat} (hk:0<k) (h1:n<10 ^ k):(dg n).length<=k:=by
 unfold dg
 rw[bR]
 refine(Nat.length_toDigits_le_iff (by decide) hk).mpr ?_
 by_cases h0:0<=n
 ·have:(n.toNat:Int)<((10 ^ k:Nat):Int):=by rw[Int.toNat_of_nonneg h0]; simpa using h1
  exact_mod_cast this
 ·rw[show n.toNat=0 by omega]
  exact Nat.pow_pos (by decide)
theorem M6 {m:Nat} (h:m<=1000000000000):m.log2<1920:=by
 by_cases e:m=0
 ·subst e; decide
 ·rw[Nat.log2_lt e]
  exact Nat.lt_of_le_of_lt h (kI (show 1000000000000<2 ^ 40 by decide) (LC (by decide) (by decide)))
theorem RB {n:Int} (h0:0<=n) (h1:n<=1000000000000):aaD (.int n)=some (tx (dg n)):=by
 show(if n.natAbs.log2<1920 then some (Str.ofString (toString n)) else none)=_
 rw[aL (M6 (by omega)),W2 h0]
abbrev YH (h:Heap) (t:Addr):Heap:=h.push { cls:=.type "list_iterator",data:=.fields #[.ref t,.int 0 0] }
abbrev zB2 (h:Heap) (t1 t2:Addr):Heap:=YH (YH h t1) t2
abbrev zB3 (h:Heap) (t1 t2:Addr):Heap:=(zB2 h t1 t2).push { cls:=.type "tuple",data:=.seq #[.ref h.objs.size,.ref (YH h t1).objs.size] }
abbrev zB4 (h:Heap) (t1 t2:Addr):Heap:=(zB3 h t1 t2).push { cls:=.type "tuple",data:=.seq #[.none,.none] }
abbrev WL (h:Heap) (t1 t2:Addr):Heap:=(zB4 h t1 t2).push { cls:=.type "zip",data:=.fields #[.none,.bool false,.bool false,.ref (zB2 h t1 t2).objs.size,.ref (zB3 h t1 t2).objs.size] }
theorem Ux (t1 t2:Addr) (xs ys:Array Value):Meets (Builtin.«zip.__new__» ⟨[.type "zip",.ref t1,.ref t2],[]⟩) (fun _ R s=>s.heap.IsList t1 xs/\s.heap.IsList t2 ys/\R (.ok (.ret (.ref (zB4 s.heap t1 t2).objs.size))) { s with heap:=WL s.heap t1 t2 }):=
 .of_wp fun prog w A R s z=>by
  obtain⟨hp,g,d,tk,os⟩:=s
  obtain⟨hx,hy,z⟩:=z
  have sub:=sub_zip
  have hX:Heap.IsList (Shared.heap ⟨hp,g,d,tk,os⟩) t1 xs:=hx
  have hY:Heap.IsList (Shared.heap ⟨YH hp t1,g,d,tk,os⟩) t2 ys:=hy.push _
  wp_walk using Hu hX,Hu hY
  exact⟨_,rfl,z⟩
theorem Nv {prog:Program} {w:World} {A:Around} {E:Value->Shared->Prop} {s:Shared} {t1 t2:Addr} {xs ys:Array Value} {Q:Value->Shared->Prop} (hx:s.heap.IsList t1 xs) (hy:s.heap.IsList t2 ys)
  (q:∀h',IsZip h' (s.heap.objs.size+4) (s.heap.objs.size+2) (s.heap.objs.size+3) .none->IsPair h' (s.heap.objs.size+2) (.ref s.heap.objs.size) (.ref (s.heap.objs.size+1))->IsPair h' (s.heap.objs.size+3) .none .none ->
   h'.IsListIter s.heap.objs.size t1 0->h'.IsListIter (s.heap.objs.size+1) t2 0->(∀c o,s.heap.get? c=some o->h'.get? c=some o)->Q (.ref (s.heap.objs.size+4)) { s with heap:=h' }) :
  wpAny (model prog w) A (call (.type "zip") [.ref t1,.ref t2]) Q E s:=by
 have n1:(YH s.heap t1).objs.size=s.heap.objs.size+1:=jP ..
 have n2:(zB2 s.heap t1 t2).objs.size=s.heap.objs.size+2:=by rw[jP,n1]
 have n3:(zB3 s.heap t1 t2).objs.size=s.heap.objs.size+3:=by rw[jP,n2]
 have n4:(zB4 s.heap t1 t2).objs.size=s.heap.objs.size+4:=by rw[jP,n3]
 have up:∀c o,s.heap.get? c=some o->(WL s.heap t1 t2).get? c=some o:=fun c o e=>eO _ (eO _ (eO _ (eO _ (eO _ e))))
 have v5:(WL s.heap t1 t2).get? (zB4 s.heap t1 t2).objs.size=some _:=dM _ rfl
 have v4:(WL s.heap t1 t2).get? (zB3 s.heap t1 t2).objs.size=some _:=eO _ (dM _ rfl)
 have v3:(WL s.heap t1 t2).get? (zB2 s.heap t1 t2).objs.size=some _:=eO _ (eO _ (dM _ rfl))
 have v2:(WL s.heap t1 t2).get? (YH s.heap t1).objs.size=some _:=eO _ (eO _ (eO _ (dM _ rfl)))
 have v1:(WL s.heap t1 t2).get? s.heap.objs.size=some _:=eO _ (eO _ (eO _ (eO _ (dM _ rfl))))
 refine callType_new F.called_zip (by decide) (F.typeCall_zip_2 _ _) (F.newCall_zip_2 _ _) (fun x=>F.args_object_init_3 x _ _) F.entry_zip_new (Ux t1 t2 xs ys) ⟨hx,hy,?_⟩
 show _/\_
 rw[n2,n3,n4] at v5
 rw[n1,n2] at v3
 rw[n3] at v4
 rw[n1] at v2
 rw[n4]
 exact⟨⟨_,v5,rfl⟩,q _ v5 v3 v4 ⟨_,v1,rfl,rfl⟩ ⟨_,v2,rfl,rfl⟩ up⟩
theorem W5 {X:Cx} {pins:List (Addr×Obj)} {σ:St} {H:Hp} {s:Shared} {a b:Addr} {xs:List V} (I:Inv X pins σ H s) (hq:dX X.K H a xs) (hf:gG X pins H b):a≠b:=fun z=>by
 rcases hq with h | ⟨o,its,n,hk,_⟩
 ·rcases h with h | ⟨o,h⟩ <;> (rw[z,hf.1] at h; cases h)
 ·have e:X.base.get? a=some o:=I.ok.mod.U9 a o hk
  rcases hf.2.2.2.1 with y | y
  ·exact I.ok.Fp a o e (z▸y)
  ·have l:=b_ e
   have m:=I.ok.Om
   rw[z] at l
   exact absurd (kI l (oG m y)) (rP _)
def kL:Knd:=⟨fun K=>dX K,fun h i a n=>h.IsListIter i a n,fun h a us=>h.IsList a us,fun⟨o,g,_,d⟩=>⟨o,g,fun v q=>by rw[d] at q; cases q⟩,fun g k=>g.at k,fun I h=>(I.list h).elim fun us p=>⟨us,p.1,p.2.1.isList⟩,fun I h h'=>I.wG h h',fun I h f=>W5 I h f,fun hh i a n us=>Draws.list hh i a n us⟩
abbrev aaW:=Yy kL kL
section
variable {X:Cx}
def Ro (K:PySem.W.Frag) (ta:TA):TI:=fun σ H R=>ta σ H fun vs H1=>∃a b,vs=[.ref a,.ref b]/\(∃xs,dX K H1 a xs)/\(∃ys,dX K H1 b ys)/\R (aaW K a b) H1
theorem Ua {K:PySem.W.Frag} {e e':Expr} {elts:List Expr} {x1} {tp p pos:Pos} {ta:TA} (hK:X.K=K) (hm:X.mg "zip" = none) (ha:PA X [e,e'] ta) (hg:Gl X "zip" := by rfl) (h1:cC e=true:=by rfl) (h2:cC e'=true:=by rfl) :
  PI X (.Tuple elts x1 tp) (.Call (.Name "zip" p) [e,e'] [] pos) (Ro K ta):=by
 subst hK
 refine .mk ?_
 intro pins s σ H R I h
 refine rY (iR I hg hm R0 ?_ (by decide) (by decide))
 refine PyProof.Rows.callWith_type1 (cQ (ha pos pins s σ H _ I h) fun us s1 ⟨vs,H1,I1,r1,q1⟩=>?_) (cR h1) (cL (es:=[e']) (by simp[h2]))
 obtain⟨a,b,rfl,⟨xs,hx⟩,⟨ys,hy⟩,q⟩:=q1
 obtain⟨u,v,rfl,ru,rv⟩:=r1.two
 cases ru
 cases rv
 obtain⟨us,_,pu,_⟩:=I1.list hx
 obtain⟨ws,_,pw,_⟩:=I1.list hy
 refine Nv pu.isList pw.isList fun h' hz hp ho h1 h2 kk=>?_
 have I2:Inv X pins σ H1 { s1 with heap:=h' }:=I1.kept (t':=s1.toks) kk
 have fr:∀n,H1 (s1.heap.objs.size+n)=none:=fun n=>I1.hok.fresh (Jy _ _)
 have fk:∀n,gG X pins H1 (s1.heap.objs.size+n):=fun n=>I1.uq (Jy _ _) (fr n)
 have ne:∀i j:Nat,i≠j->s1.heap.objs.size+i≠s1.heap.objs.size+j:=fun i j n e=>n (Nat.add_left_cancel e)
 refine wpAny_pyIter_zip hz ⟨s1.heap.objs.size+4,_,_,aaW X.K a b,H1,rfl,I2,yO kL kL a b (s1.heap.objs.size+4) (s1.heap.objs.size+2) (s1.heap.objs.size+3) s1.heap.objs.size (s1.heap.objs.size+1) (ne _ _ (by decide)) (ne _ _ (by decide)) (ne _ _ (by decide)) (ne 0 _ (by decide)) (ne _ _ (by decide)) (ne _ 0 (by decide)) (ne _ _ (by decide)) (ne 0 _ (by decide)) (ne _ 0 (by decide)) (ne _ _ (by decide)),⟨hz,hp,⟨_,_,ho⟩,h1,h2⟩,fun c hc=>?_,q⟩
 simp only[b7,jQ,or_false] at hc
 rcases hc with rfl | rfl | rfl | rfl | rfl
 ·exact fk 4
 ·exact fk 2
 ·exact fk 3
 ·exact fk 0
 ·exact fk 1
end
theorem Nr {K:PySem.W.Frag} {js:List Nat} {a b:Addr} {xs ys:List V} {es:List PyData} {ta:TA} {te:TE} {σ:St} {H:Hp} {Q:VK} (hl:∀R:List V->Hp->Prop,R [.ref a,.ref b] H->ta σ H R) (ha:H a=some (.lst xs)) (hb:H b=some (.lst ys)) (n1:xs.length=es.length) (n2:ys.length=es.length) (hz:es.length<=sizeLine) (hL:bM es=true)
  (val:∀(i:Nat) x y e H',xs[i]?=some x->ys[i]?=some y->es[i]?=some e->aF H H'->∀R:VK,(∀v cZ,aF H' cZ->At cZ e v->R v cZ)->te (some x::some y::bW js σ) H' R)
  (fin:∀acc zs H',aF H H'->H acc=none->H' acc=some (.lst zs)->ak (hid acc H') es zs->Q (.ref acc) H'):eG 2 js (Ro K ta) (Ga K 2 (iD (dG 0) (iD (dG 1) wW))) pX te σ H Q:=by
 refine hl _ ⟨a,b,rfl,⟨xs,dX.of ha⟩,⟨ys,dX.of hb⟩,fun acc hacc=>?_⟩
 have gx:∀i,i<es.length->xs[i]?=some (xs.getD i .non):=fun i hi=>by rw[fJ,fM (by omega)]; rfl
 have gy:∀i,i<es.length->ys[i]?=some (ys.getD i .non):=fun i hi=>by rw[fJ,fM (by omega)]; rfl
 refine pL (es:=es) (fun i=>xs.getD i .non) (fun i=>ys.getD i .non) hz hL hacc (fun i H' hi s=>⟨xs,ys,_,_,dX.of (s _ _ ha),dX.of (s _ _ hb),gx i hi,gy i hi⟩) (fun i H' v cZ hi s y=>?_) (fun H' s=>⟨xs,ys,dX.of (s _ _ ha),dX.of (s _ _ hb),.inl n1.symm⟩) (fun i e H' he s R hR=>?_) fun zs H' s h1 h2=>fin acc zs H' s hacc h1 h2
 ·obtain⟨p,x,y,fp,e1,e2,h1,h2⟩:=y
  have q1:=h1 xs (dX.of (s _ _ ha))
  have q2:=h2 ys (dX.of (s _ _ hb))
  rw[gx i hi] at q1
  rw[gy i hi] at q2
  cases q1
  cases q2
  exact⟨p,fp,e1,e2⟩
 ·have hi:i<es.length:=by
   by_cases z:i<es.length
   ·exact z
   ·rw[E_ (by omega)] at he; cases he
  exact val i _ _ e H' (gx i hi) (gy i hi) he s R hR
end L2
namespace L2
open PySem
structure Pl (n:Nat) (d:PyData):Prop where
 hd:d.hasDict=false
 cl:d.canLay0=true
 dp:d.depth<=n
end L2
namespace L2
open PySem PySem.Spec PyProof.Rows
def Ob (h:Heap) (e:Addr) (cls:Value) (T:Addr):Prop:=∃oe vs,h.get? e=some oe/\(oe.cls=cls/\oe.dict=none)/\oe.data=.fields vs/\vs[1]?=some (.ref T)/\vs[2]?=some .none
def N_ (h:Heap) (T:Addr):Prop:=∃oT ts,h.get? T=some oT/\oT.data=.fields ts/\ts[3]?=some .none
structure Ws (fs:List Addr) (h h':Heap) (e T:Addr) (cls:Value):Prop where
 keep:∀b o,b≠e->b∉fs->h.get? b=some o->h'.get? b=some o
 slot:∀b o,b≠e->h.get? b=some o->∃sl,h'.get? b=some { o with slots:=sl }
 fresh:h.objs.size<=T
 ex:Ob h' e cls T
 tb:N_ h' T
section
variable {M:Model} {A:Around} {E:Value->Shared->Prop} {s:Shared}
theorem wZ (o:Obj) (f:Array Value->Array Value):(Obj.mapFields f o).dict=o.dict:=by
 obtain⟨c,d,dt,sl⟩:=o
 cases dt <;> rfl
theorem entryE {base:Heap} {env:Env} {outer:List Env} {L e:Addr} {oe:Obj} {vs:Array Value} {head:Value} {nx:Bool} {Q:Unit->Shared->Prop}
  (fr:A.frames=some (env::outer)) (ff:s.heap.FunFrames base (env::outer)) (fL:env.frame=some L) (he:s.heap.get? e=some oe) (hdn:oe.dict=none) (hd:oe.data=.fields vs) (hz:1<vs.size) (hc:vs[2]?=some .none)
  (q:∀h' T,Ws (frs (env::outer)) s.heap h' e T oe.cls->Q () { s with heap:=h' }) :
  wpAny M A (do
   let a <- frameOf env
   let pl <- entryPlaceOf L nx
   let b <- EntryCells.newEntry head a .none (rawInt L) .none pl
   setField (.ref e) 1 b) (fun _ s'=>wpAny M A (setFlight (.ref e) none) Q E s') E s:=by
 have ne:e∉frs (env::outer):=fun hm=>by
  obtain⟨_,o,ho,hf⟩:=ff.mem hm
  rw[he] at ho
  cases ho
  exact hf vs hd
 refine aQ (wpAny_frameOf_fun fr ff fL fun h1 so=>aQ (wpAny_entryPlaceOf fun pl hpl=>?_))
 obtain⟨sz,sk,ss⟩:=so
 unfold EntryCells.newEntry newFields
 refine aQ (uf ?_ (hpl.sizeOk5 _ _ _ _ _))
 have e1:h1.get? e=some oe:=(sk e ne).trans he
 have pe:=eO (h:=h1) { cls:=.type "traceback",data:=.fields (([head,.ref L,.none,rawInt L,.none]:List Value)++(if pl.isEmpty then List.replicate 6 .none else pl)).toArray } e1
 have nT:h1.objs.size≠e:=Eo (b_ e1)
 have pT:=dM h1 (o:={ cls:=.type "traceback",data:=.fields (([head,.ref L,.none,rawInt L,.none]:List Value)++(if pl.isEmpty then List.replicate 6 .none else pl)).toArray }) rfl
 have pk:∀b o,h1.get? b=some o->(h1.push { cls:=.type "traceback",data:=.fields (([head,.ref L,.none,rawInt L,.none]:List Value)++(if pl.isEmpty then List.replicate 6 .none else pl)).toArray }).get? b=some o:=fun b o z=>eO _ z
 refine zu pe hd hz ?_
 generalize h1.push { cls:=.type "traceback",data:=.fields (([head,.ref L,.none,rawInt L,.none]:List Value)++(if pl.isEmpty then List.replicate 6 .none else pl)).toArray }=h2 at pe pT pk ⊢
 have dx:=Obj.data_mapFields hd (·.setIfInBounds 1 (Value.ref h1.objs.size))
 have pe3:=yf (Obj.mapFields (·.setIfInBounds 1 (Value.ref h1.objs.size))) pe (Obj.isFreed_of_fields dx)
 have pT3:=(ug h2 (Obj.mapFields (·.setIfInBounds 1 (Value.ref h1.objs.size))) (Ne.symm nT)).trans pT
 have pk3:∀b o,b≠e->h1.get? b=some o->(h2.update e (Obj.mapFields (·.setIfInBounds 1 (Value.ref h1.objs.size)))).get? b=some o:=fun b o z y=>(ug h2 _ (Ne.symm z)).trans (pk b o y)
 have ce:=Obj.cls_mapFields oe (·.setIfInBounds 1 (Value.ref h1.objs.size))
 generalize h2.update e (Obj.mapFields (·.setIfInBounds 1 (Value.ref h1.objs.size)))=h3 at pe3 pT3 pk3 ⊢
 unfold setFlight
 have v1:(vs.setIfInBounds 1 (Value.ref h1.objs.size))[1]?=some (.ref h1.objs.size):=by simp[hz]
 refine aQ (ji pe3 dx v1 ?_)
 rw[aL (show(Value.ref h1.objs.size != Value.none)=true by simp)]
 refine zu pT3 rfl (by simp only[fB,fP,jD,List.length_nil] <;> omega) ?_
 have d4:=Obj.data_mapFields (o:={ cls:=.type "traceback",data:=.fields (([head,.ref L,.none,rawInt L,.none]:List Value)++(if pl.isEmpty then List.replicate 6 .none else pl)).toArray }) rfl (·.setIfInBounds 3 ((none:Option Addr).elim Value.none fun f=>rawInt f))
 have pT4:=yf (Obj.mapFields (·.setIfInBounds 3 ((none:Option Addr).elim Value.none fun f=>rawInt f))) pT3 (Obj.isFreed_of_fields d4)
 have o4:∀b,b≠h1.objs.size->(h3.update h1.objs.size (Obj.mapFields (·.setIfInBounds 3 ((none:Option Addr).elim Value.none fun f=>rawInt f)))).get? b=h3.get? b:=fun b z=>ug h3 _ (Ne.symm z)
 refine q _ h1.objs.size ⟨fun b o z y x=>?_,fun b o z x=>?_,Nat.le_of_eq sz.symm,⟨_,_,(o4 e (Ne.symm nT)).trans pe3,⟨ce,(wZ oe _).trans hdn⟩,dx,v1,by rw[Array.getElem?_setIfInBounds]; simpa using hc⟩,⟨_,_,pT4,d4,?_⟩⟩
 ·have x1:h1.get? b=some o:=(sk b y).trans x
  exact(o4 b (fK (b_ x1))).trans (pk3 b o z x1)
 ·obtain⟨sl,x1⟩:=ss b o x
  exact⟨sl,(o4 b (fK (b_ x1))).trans (pk3 b _ z x1)⟩
 ·first | (simp; done) | (rcases hpl with rfl | ⟨_,_,_,_,_,_,_,rfl⟩ <;> simp)
theorem U4 {base:Heap} {env:Env} {outer:List Env} {L e:Addr} {oe:Obj} {vs:Array Value} {Q:Unit->Shared->Prop}
  (fr:A.frames=some (env::outer)) (ff:s.heap.FunFrames base (env::outer)) (fL:env.frame=some L) (he:s.heap.get? e=some oe) (hdn:oe.dict=none) (hd:oe.data=.fields vs) (h1:vs[1]?=some .none) (h2:vs[2]?=some .none)
  (q:∀h' T,Ws (frs (env::outer)) s.heap h' e T oe.cls->Q () { s with heap:=h' }):wpAny M A (leaving env (.ref e)) Q E s:=by
 unfold leaving noteFrame
 simp only[fL]
 refine aQ (aQ (ji he hd h1 ?_))
 rw[bB (by decide)]
 exact entryE fr ff fL he hdn hd (yg.mp h1).1 h2 q
structure Yw (fs:List Addr) (h h':Heap) (e T0 T:Addr) (cls:Value):Prop where
 keep:∀b o,b≠e->b≠T0->b∉fs->h.get? b=some o->h'.get? b=some o
 slot:∀b o,b≠e->b≠T0->h.get? b=some o->∃sl,h'.get? b=some { o with slots:=sl }
 old:∃o,h'.get? T0=some o
 fresh:h.objs.size<=T
 ex:Ob h' e cls T
 tb:N_ h' T
theorem noteE2 {base:Heap} {env:Env} {outer:List Env} {L e T0:Addr} {cls:Value} {Q:Unit->Shared->Prop}
  (fr:A.frames=some (env::outer)) (ff:s.heap.FunFrames base (env::outer)) (fL:env.frame=some L) (he:Ob s.heap e cls T0) (hT:N_ s.heap T0) (nT:T0≠e)
  (q:∀h' T,Yw (frs (env::outer)) s.heap h' e T0 T cls->Q () { s with heap:=h' }) :
  wpAny M A (noteFrame (.ref e) env) (fun _ s2=>wpAny M A (setFlight (.ref e) none) Q E s2) E s:=by
 obtain⟨oe,vs,e1,⟨ec,edn⟩,ed,ev,ev2⟩:=he
 obtain⟨oT,ts,t1,td,tv⟩:=hT
 subst ec
 unfold noteFrame
 simp only[fL]
 refine aQ (ji e1 ed ev ?_)
 rw[aL (show(Value.ref T0 != Value.none)=true by simp)]
 refine aQ (ji t1 td tv ?_)
 rw[bB (show ¬((Value.none==rawInt L)=true) by simp[rawInt])]
 have tz:=(yg.mp tv).1
 refine aQ (zu t1 td tz ?_)
 have dT:=Obj.data_mapFields td (·.setIfInBounds 3 Value.none)
 have g1:=yf (Obj.mapFields (·.setIfInBounds 3 Value.none)) t1 (Obj.isFreed_of_fields dT)
 have g2:∀b,b≠T0->(s.heap.update T0 (Obj.mapFields (·.setIfInBounds 3 Value.none))).get? b=s.heap.get? b:=fun b z=>ug _ _ (Ne.symm z)
 have gz:(s.heap.update T0 (Obj.mapFields (·.setIfInBounds 3 Value.none))).objs.size=s.heap.objs.size:=Heap.size_after_update ..
 have f2:(s.heap.update T0 (Obj.mapFields (·.setIfInBounds 3 Value.none))).FunFrames base (env::outer):=ff.of_keeps fun b o ho hf=>⟨o,(g2 b fun z=>by
  rw[z,t1] at ho
  cases ho
  exact hf ts td).trans ho,rfl⟩
 generalize s.heap.update T0 (Obj.mapFields (·.setIfInBounds 3 Value.none))=h2 at g1 g2 gz f2 ⊢
 refine entryE (s:={ s with heap:=h2 }) fr f2 fL ((g2 e (Ne.symm nT)).trans e1) edn ed (yg.mp ev).1 ev2 fun h' T l=>?_
 have nf:T0∉frs (env::outer):=fun hm=>by
  obtain⟨_,o,ho,hf⟩:=ff.mem hm
  rw[t1] at ho
  cases ho
  exact hf ts td
 exact q h' T ⟨fun b o z y x u=>l.keep b o z x ((g2 b y).trans u),fun b o z y u=>l.slot b o z ((g2 b y).trans u),⟨_,l.keep _ _ nT nf g1⟩,by rw[<- gz]; exact l.fresh,l.ex,l.tb⟩
end
section
variable {P:Program} {w:World} {H H':Hp} {h h':Heap} {a:Addr} {o:HO}
theorem cz.there (x:cz P w H h a o):∃u,h.get? a=some u:=by
 cases o with
 | lst xs=>obtain⟨_,_,_,_,e⟩:=x; exact⟨_,e⟩
 | tup xs=>obtain⟨_,_,_,ob,e,_⟩:=x; exact⟨_,e⟩
 | dK kvs=>obtain⟨_,_,_,_,o,_,_,e,_⟩:=x; exact⟨_,e⟩
 | dT kvs=>obtain⟨_,_,_,_,o,_,_,e,_⟩:=x; exact⟨_,e⟩
 | set S n=>obtain⟨o,_,_,_,e,_⟩:=x; exact⟨_,e⟩
 | ins C dx fs=>obtain⟨_,_,_,e,_⟩:=x; exact⟨_,e⟩
 | own y=>exact x
 | xd fs=>obtain⟨_,⟨_,_,_,e,_⟩,_⟩:=x; exact⟨_,e⟩
 | Tv lo hi=>obtain⟨_,_,_,e⟩:=x; exact⟨_,e⟩
 | Dn ob u=>obtain⟨e,_⟩:=x; exact⟨_,e⟩
 | Vz ps=>exact⟨_,(show h.get? a=some _ from x)⟩
 | met f y=>exact⟨_,(show h.get? a=some _ from x)⟩
 | ext φ=>obtain⟨_,e,_⟩:=x; exact e
theorem lW.none (x:lW P w H h) (e:h.get? a=none):H a=none:=by
 cases q:H a with
 | none=>rfl
 | some u=>
  obtain⟨v,z⟩:=(x a u q).there
  rw[e] at z; cases z
def xT (e:Addr) (cls:Value) (T:Addr):HO:=.ext fun h=>Ob h e cls T
def yH (T:Addr):HO:=.ext fun h=>N_ h T
def Sx (T:Addr):HO:=.ext fun h=>∃o,h.get? T=some o
theorem QT {e T:Addr} {cls:Value} (x:Ob h e cls T):cz P w H h e (xT e cls T):=by
 refine⟨x,?_,?_⟩
 ·obtain⟨oe,vs,e1,_⟩:=x; exact⟨_,e1⟩
 ·rintro h1 h2 ⟨oe,vs,e1,r⟩ k
  exact⟨oe,vs,k _ e1,r⟩
theorem J0 {T:Addr} (x:N_ h T):cz P w H h T (yH T):=by
 refine⟨x,?_,?_⟩
 ·obtain⟨oe,vs,e1,_⟩:=x; exact⟨_,e1⟩
 ·rintro h1 h2 ⟨oe,vs,e1,r⟩ k
  exact⟨oe,vs,k _ e1,r⟩
theorem Wb {T:Addr} (x:∃o,h.get? T=some o):cz P w H h T (Sx T):=by
 refine⟨x,x,?_⟩
 rintro h1 h2 ⟨oe,e1⟩ k
 exact⟨oe,k _ e1⟩
theorem xT.at {e T:Addr} {cls:Value} (x:cz P w H h e (xT e cls T)):Ob h e cls T:=x.1
theorem yH.at {T:Addr} (x:cz P w H h T (yH T)):N_ h T:=x.1
theorem lW.ext (x:lW P w H h) (S:Addr->Prop) (k:∀b u v,H b=some u->¬S b->h.get? b=some v->h'.get? b=some v) (hs:∀b,S b->H b=Option.none\/∃φ,H b=some (.ext φ))
  (o1:∀b,¬S b->H' b=H b) (o2:∀b u,S b->H' b=some u->cz P w H' h' b u):lW P w H' h':=fun b u e=>by
 by_cases z:S b
 ·exact o2 b u z e
 ·rw[o1 b z] at e
  refine(x b u e).stay (fun c v q y=>?_) (fun c q=>?_) (fun c xs q=>?_)
  ·rcases q with q | q
   ·subst q; exact k c u v e z y
   ·exact k c _ v q (fun y'=>(hs c y').elim (fun n=>by rw[n] at q; cases q) fun⟨φ,n⟩=>by rw[n] at q; cases q) y
  ·rw[o1 c fun y'=>(hs c y').elim (fun n=>by rw[n] at q; cases q) fun⟨φ,n⟩=>by rw[n] at q; cases q]; exact q
  ·rw[o1 c fun y'=>(hs c y').elim (fun n=>by rw[n] at q; cases q) fun⟨φ,n⟩=>by rw[n] at q; cases q]; exact q
end
def my (P:Program) (w:World):K9:=fun outer H s E e s'=>∃(a T:Addr) (cls:Value) (H':Hp),e=.ref a/\s'.os=s.os/\AllBare s'.gens/\Un (frs outer) [] H H' s.heap s'.heap/\lW P w H' s'.heap /\
 H' a=some (xT a cls T)/\H' T=some (yH T)/\T≠a/\(s.heap.get? a=none/\s.heap.get? T=none)/\E cls none H'
section
variable {P:Program} {w:World} {K:PySem.W.Frag} {mg:Str->Option Value} {base:Heap} {N:List Str} {qual:Str} {scope:Scope} {f:Addr} {cd:Value} {A:Around} {outer:List Env} {s0:Shared} {H0:Hp} {E:XK}
theorem Hq {pins:List (Addr×Obj)} {σ:St} {H:Hp} {s:Shared} {h2:Heap} {e C:Addr} {us:List Value} (I:Inv (gq (my P w) P w K mg base N qual scope f cd A outer s0 H0 E) pins σ H s)
  (m:Heap.MadeExcOf s.heap h2 e (.ref C) us) (Nk:lW P w H0 s0.heap) (q:∀H',aF H H'->E (.ref C) none H'):(gq (my P w) P w K mg base N qual scope f cd A outer s0 H0 E).xe (.ref e) { s with heap:=h2 }:=by
 obtain⟨t,he,_,_⟩:=m.there
 have ff:h2.FunFrames base (envOfC qual scope s0.heap.objs.size f cd::outer):=(I.stack:s.heap.FunFrames base (envOfC qual scope s0.heap.objs.size f cd::outer)).of_keeps fun b o ho _=>⟨o,m.keeps b o ho,rfl⟩
 have fr:(A.deeper (envOfC qual scope s0.heap.objs.size f cd)).frames=some (envOfC qual scope s0.heap.objs.size f cd::outer):=I.ok.frames
 refine U4 (s:={ s with heap:=h2 }) fr ff rfl he rfl rfl rfl rfl fun h3 T l=>?_
 have ne:H e=none:=I.hok.none m.new
 have nT:H T=none:=I.hok.none (by
  cases z:s.heap.get? T with
  | none=>rfl
  | some o=>exact absurd (b_ (m.keeps _ _ z)) (Nat.not_lt.mpr l.fresh))
 have Te:T≠e:=fun z=>by
  obtain⟨oe,vs,e1,e2,e3,e4⟩:=l.ex
  obtain⟨oT,ts,t1,t2,t3⟩:=l.tb
  have:=b_ he
  have:=l.fresh
  have:e<h2.objs.size:=b_ he
  subst z
  exact absurd this (Nat.not_lt.mpr l.fresh)
 have iL:∀b o,s0.heap.get? b=some o->b≠s0.heap.objs.size:=fun b o z=>fK (b_ z)
 have ib:Un (frs outer) [] H0 H s0.heap s.heap:=I.base
 have u1:∀b,b≠T->b≠e->upd (upd H e (xT e (.ref C) T)) T (yH T) b=H b:=fun b y z=>by rw[aP y,aP z]
 have nb:∀b o,s.heap.get? b=some o->b≠e:=fun b o z y=>by rw[y,m.new] at z; cases z
 have nbT:∀b o,s.heap.get? b=some o->b≠T:=fun b o z y=>by
  have a1:=b_ (m.keeps b o z)
  have a2:h2.objs.size<=T:=l.fresh
  subst y
  exact Nat.not_lt.mpr a2 a1
 have nf:∀b,b∉frs outer->b≠s0.heap.objs.size->b∉frs (envOfC qual scope s0.heap.objs.size f cd::outer):=fun b y z hm=>by
  rcases b7.mp (show b∈s0.heap.objs.size::frs outer from hm) with x | x
  ·exact z x
  ·exact y x
 have hu:∀b u,H b=some u->b≠e/\b≠T:=fun b u z=>⟨fun y=>(by rw[y,ne] at z; cases z),fun y=>(by rw[y,nT] at z; cases z)⟩
 refine⟨e,T,.ref C,upd (upd H e (xT e (.ref C) T)) T (yH T),rfl,I.os,I.bare,⟨fun b o z n y _=>?_,fun b o z n y x=>?_,fun b o z n x=>?_,fun b o z x=>?_,fun b xs z=>?_,fun b o u z=>?_,fun b ps z=>?_⟩,?_,?_,az,Te,⟨?_,?_⟩,?_⟩
 ·have g:=ib.keep b o z n y (by simp)
  exact l.keep b o (nb b o g) (nf b y (iL b o z)) (m.keeps b o g)
 ·obtain⟨sl,g⟩:=ib.slot b o z n y x
  obtain⟨sl2,g2⟩:=l.slot b _ (nb b _ g) (m.keeps b _ g)
  exact⟨sl2,g2⟩
 ·obtain⟨o',g⟩:=ib.there b o z x
  rw[u1 b (nbT b _ g) (nb b _ g)]
  exact ib.free b o z n x
 ·obtain⟨o',g⟩:=ib.there b o z x
  obtain⟨sl2,g2⟩:=l.slot b _ (nb b _ g) (m.keeps b _ g)
  exact⟨_,g2⟩
 ·have g:=ib.tups b xs z
  rw[u1 b (hu b _ g).2 (hu b _ g).1]; exact g
 ·have g:=ib.yq b o u z
  rw[u1 b (hu b _ g).2 (hu b _ g).1]; exact g
 ·obtain⟨more,g⟩:=ib.Bh b ps z
  exact⟨more,by rw[u1 b (hu b _ g).2 (hu b _ g).1]; exact g⟩
 ·refine(show lW P w H s.heap from I.hok).ext (fun b=>b=e\/b=T) (fun b u v z y x=>?_) (fun b z=>?_) (fun b z=>?_) (fun b u z y=>?_)
  ·have g:=(I.hok b u z).there
   refine l.keep b v (fun q=>y (.inl q)) (fun hm=>?_) (m.keeps b v x)
   have:=I.uy b hm
   rw[z] at this; cases this
  ·rcases z with rfl | rfl
   ·exact .inl ne
   ·exact .inl nT
  ·exact u1 b (fun q=>z (.inr q)) fun q=>z (.inl q)
  ·rcases z with rfl | rfl
   ·rw[aP (Ne.symm Te),az] at y
    cases y
    exact QT l.ex
   ·rw[az] at y
    cases y
    exact J0 l.tb
 ·rw[aP (Ne.symm Te),az]
 ·cases z:s0.heap.get? e with
  | none=>rfl
  | some o=>
   obtain⟨o',g⟩:=ib.there e o z (by simp)
   rw[m.new] at g; cases g
 ·cases z:s0.heap.get? T with
  | none=>rfl
  | some o=>
   obtain⟨o',g⟩:=ib.there T o z (by simp)
   exact absurd rfl (nbT T o' g)
 ·exact q _ ((aK ne _).trans (aK (by rw[aP Te]; exact nT) _))
end
def WQ:List Value:=[.type "ValueError",.type "Exception",.type "BaseException",.type "object"]
structure ExC (K:PySem.W.Frag) (mg:Str->Option Value) (x:Str) (C:Addr):Prop where
 bound:mg x=some (.ref C)
 ok:PySem.W.excIn K C WQ "ValueError.__new__" = true
theorem ExC.obj {K:PySem.W.Frag} {C:Addr} {h:Heap} (X:K.In h) (q:PySem.W.excIn K C WQ "ValueError.__new__" = true) :
  ∃bm N nm qn bs hdct sn sub ab col dd k0 k1 k2 k3 k5 mN,h.get? C=some (excClassObj nm qn C N bs bm hdct sn sub ab col dd k0 k1 k2 k3 k5 "ValueError.__new__")/\h.Ns N mN/\mN "__init__" = none/\OwnTail h WQ bm:=by
 unfold PySem.W.excIn at q
 split at q
 ·rename_i dd cd sl ho
  split at q
  ·rename_i C' bm k0 k1 k2 k3 n k5 hm hs
   simp only[Bx,beq_iff_eq,Bool.not_eq_true'] at q
   obtain⟨⟨⟨⟨⟨rfl,rfl⟩,a1⟩,a2⟩,a3⟩,a4⟩:=q
   cases cd with
   | mk nm bs mro ns qn hd sn sub ab col del=>
    dsimp only at hm a1 a3 a4
    subst hm a1
    obtain⟨l⟩:=sl
    have e:l=[k0,k1,k2,k3,some (.builtin "ValueError.__new__"),k5]:=hs
    subst e
    exact⟨bm,ns,nm,qn,bs,hd,sn,sub,ab,col,dd,k0,k1,k2,k3,k5,_,X _ _ ho,.of_isNs (PySem.W.isNs_of_in X a3),PySem.W.nsMap_none_of_in X a3 a4,PySem.W.tail_of_in X a2⟩
  ·cases q
 ·cases q
def O_ (E:XK) (C:Addr) (ta:TA):TS:=fun _ σ H=>ta σ H fun vs H1=>vs.length<=sizeLine/\∀H',aF H1 H'->E (.ref C) none H'
section
variable {P:Program} {w:World} {K:PySem.W.Frag} {mg:Str->Option Value} {base:Heap} {N:List Str} {qual:Str} {scope:Scope} {f:Addr} {cd:Value} {A:Around} {outer:List Env} {s0:Shared} {H0:Hp} {E:XK}
theorem Fb {x:Str} {C:Addr} {e0:Expr} {np cpos pos:Pos} {ta:TA} (c:ExC K mg x C) (Nk:lW P w H0 s0.heap) (ha:PA (gq (my P w) P w K mg base N qual scope f cd A outer s0 H0 E) [e0] ta) (hg:Gl (gq (my P w) P w K mg base N qual scope f cd A outer s0 H0 E) x:=by rfl)
  (hd:(x==("__debug__" : Str))=false:=by decide)
  (he:starEach [e0] (gq (my P w) P w K mg base N qual scope f cd A outer s0 H0 E).env=[(false,eval e0 (gq (my P w) P w K mg base N qual scope f cd A outer s0 H0 E).env)]:=by rfl) :
  PS (gq (my P w) P w K mg base N qual scope f cd A outer s0 H0 E) (.Raise (some (.Call (.Name x np) [e0] [] cpos)) none pos) (O_ E C ta):=by
 refine .mk ?_
 intro pins s σ H D I h
 obtain⟨bm,N1,nm,qn,bs,hdct,sn,sub,ab,col,dd,k0,k1,k2,k3,k5,mN,hC,hN,hni,T⟩:=ExC.obj (show K.In base from I.mod.U9) c.ok
 have bk:∀{s:Shared} {H:Hp} {σ:St},Inv (gq (my P w) P w K mg base N qual scope f cd A outer s0 H0 E) pins σ H s->∀b o,base.get? b=some o->s.heap.get? b=some o:=fun I=>I.bk
 refine wpAny_Raise_call_subU (C:=C) (nm:=nm) (q:=qn) (N:=N1) (bs:=bs) (bm:=bm) (hdct:=hdct) (sn:=sn) (sub:=sub) (ab:=ab) (col:=col) (dd:=dd) (k0:=k0) (k1:=k1) (k2:=k2) (k3:=k3) (k5:=k5) (newId:="ValueError.__new__")
  PySem.F.excBase_ValueError (by decide) PySem.F.excBase_ValueError (mN:=mN) (T.hasType PySem.F.excBase_ValueError.hasBase) (I.ok.hd rfl) (by rw[he]; rfl) hni (uI I hg c.bound ⟨rfl,?_⟩ hd)
 have g:=ha cpos pins s σ H _ I h
 rw[he] at g ⊢
 refine Calls.evalArgs_plain (gm g (fun us s2 z=>?_) fun _ _ y=>y)
 obtain⟨vs,H2,I2,rv,l2,q2⟩:=z
 refine⟨rfl,by rw[<- rv.length]; exact l2,bk I2 _ _ hC,hN.keeps (bk I2),T.keeps (bk I2),fun h' e m=>Hq I2 m Nk q2⟩
end
section
variable {X:Cx} {pins:List (Addr×Obj)} {σ:St} {H:Hp} {s:Shared}
end
section
variable {X:Cx} {pins:List (Addr×Obj)} {σ:St} {H:Hp} {s:Shared}
abbrev Cx.in' (X:Cx) (e:Value):Cx:={ X with A:=X.A.mark (some e),calm:=false }
theorem Inv.inE (I:Inv X pins σ H s) (e:Value):Inv (X.in' e) pins σ H s:=
 ⟨⟨I.ok.mod,I.ok.kind,I.ok.glob,I.ok.blt,I.ok.above,I.ok.inj,I.ok.has,I.ok.cab,(fun z=>nomatch z),I.ok.frames,I.ok.ZC,I.ok.exf,I.ok.bs,I.ok.Om,I.ok.Fp,I.ok.Ij,I.ok.uo,I.ok.Ye⟩,I.os,I.bare,I.base,I.loc,I.cell,I.free,I.kY,I.pin,I.hok,I.len⟩
theorem Inv.Ui {e:Value} (I:Inv (X.in' e) pins σ H s) (ok:X.Ok):Inv X pins σ H s:=⟨ok,I.os,I.bare,I.base,I.loc,I.cell,I.free,I.kY,I.pin,I.hok,I.len⟩
theorem Inv.ext {H':Hp} {h':Heap} (I:Inv X pins σ H s) (S:Addr->Prop) (keep:∀b o,¬S b->b∉frs X.stack->s.heap.get? b=some o->h'.get? b=some o) (slot:∀b o,¬S b->s.heap.get? b=some o->∃sl,h'.get? b=some { o with slots:=sl })
  (there:∀b o,S b->s.heap.get? b=some o->∃o',h'.get? b=some o') (hs:∀b,S b->(H b=none/\s.heap.get? b=none)\/∃φ,H b=some (.ext φ))
  (o1:∀b,¬S b->H' b=H b) (o2:∀b u,S b->H' b=some u->cz X.prog X.w H' h' b u):Inv X pins σ H' { s with heap:=h' }:=by
 have un:∀b o,s.heap.get? b=some o->H b=none->¬S b:=fun b o e n z=>by
  rcases hs b z with⟨_,q⟩ | ⟨φ,q⟩
  ·rw[e] at q; cases q
  ·rw[n] at q; cases q
 have tr:∀b u,H b=some u->(∀φ,u≠.ext φ)->H' b=some u:=fun b u e n=>by
  rw[o1 b fun z=>(hs b z).elim (fun q=>by rw[q.1] at e; cases e) fun⟨φ,q⟩=>by rw[q] at e; cases e; exact n φ rfl]
  exact e
 refine I.call (ch:=[]) (g':=s.gens) (t':=s.toks) (d':=s.drawn) ⟨fun b o e n hb _=>keep b o (un b o e n) hb e,fun b o e n hb _=>slot b o (un b o e n) e,fun b o e n _=>(by rw[o1 b (un b o e n)]; exact n),fun b o e _=>?_,fun b xs e=>tr b _ e (fun φ z=>by cases z),fun b o u e=>tr b _ e (fun φ z=>by cases z),fun b ps e=>⟨#[],(by rw[tr b _ e (fun φ z=>by cases z)]; simp)⟩⟩ ?_ I.bare fun b z=>nomatch z
 ·by_cases z:S b
  ·exact there b o z e
  ·obtain⟨sl,q⟩:=slot b o z e; exact⟨_,q⟩
 ·refine I.hok.ext S (fun b u v e z q=>?_) (fun b z=>(hs b z).elim (fun q=>.inl q.1) .inr) o1 o2
  refine keep b v z (fun hm=>?_) q
  have:=I.uy b hm
  rw[e] at this; cases this
theorem Nm {M:Model} {A:Around} {E:Value->Shared->Prop} {a T:Addr} {cls:Value} {Q:Unit->Shared->Prop} (I:Inv X pins σ H s) (ha:H a=some (xT a cls T)) (hT:H T=some (yH T)) (q:∀s',Inv X pins σ H s'->Q () s') :
  wpAny M A (setFlight (.ref a) none) Q E s:=by
 obtain⟨oe,vs,e1,ec,ed,ev,_⟩:=xT.at (I.hok a _ ha)
 obtain⟨oT,ts,t1,td,tv⟩:=yH.at (I.hok T _ hT)
 unfold setFlight
 refine aQ (ji e1 ed ev ?_)
 rw[aL (show(Value.ref T != Value.none)=true by simp)]
 have tz:=(yg.mp tv).1
 refine zu t1 td tz ?_
 have dT:=Obj.data_mapFields td (·.setIfInBounds 3 ((none:Option Addr).elim Value.none fun f=>rawInt f))
 have g1:=yf (Obj.mapFields (·.setIfInBounds 3 ((none:Option Addr).elim Value.none fun f=>rawInt f))) t1 (Obj.isFreed_of_fields dT)
 have g2:∀b,b≠T->(s.heap.update T (Obj.mapFields (·.setIfInBounds 3 ((none:Option Addr).elim Value.none fun f=>rawInt f)))).get? b=s.heap.get? b:=fun b z=>ug _ _ (Ne.symm z)
 refine q _ (I.ext (fun b=>b=T) (fun b o z _ e=>(g2 b z).trans e) (fun b o z e=>⟨o.slots,(g2 b z).trans e⟩) (fun b o z e=>by subst z; exact⟨_,g1⟩) (fun b z=>.inr (by subst z; exact⟨_,hT⟩)) (fun _ _=>rfl) fun b u z e=>?_)
 subst z
 rw[hT] at e
 cases e
 exact J0 ⟨_,_,g1,dT,by simp[tz]⟩
end
def aaX (H:Hp) (a:Addr) (cls:Value):Prop:=∃T,H a=some (xT a cls T)
section
variable {X:Cx} {pins:List (Addr×Obj)} {σ:St} {H1:Hp} {s1 s':Shared}
end
section
variable {P:Program} {w:World} {K:PySem.W.Frag} {mg:Str->Option Value} {base:Heap}
theorem Rz {CX:K9} {k:Nat} {f:Addr} {name qual:Str} {params:Arguments} {body:List Stmt} {scope:Scope} {dV kV doc pm cdv ct oc:Value} {an od:Option Addr}
  {osl:Array (Option Value)} {N ps:List Str} {sp:Sp} (lk:K.lookup f=some ⟨oc,od,.func (PySem.W.fnOf name qual params body scope dV kV doc pm an cdv ct),osl⟩) (hcd:PySem.W.codeIn K cdv qual=true) (S:aV N ps scope)
  (len:∀vs H Q E,sp vs H Q E->vs.length=ps.length)
  (hbody:∀(A:Around) (outer:List Env) (s:Shared) (H:Hp) (vs:List V) (Q:VK) (E:XK),lW P w H s.heap->ir k (A.deeper (envOfC qual scope s.heap.objs.size f cdv))->sp vs H Q E ->
   ∃t,yI (gq CX P w K mg base N qual scope f cdv A outer s H E) body t/\t { nx:=fun _ H'=>Q .non H',rt:=Q } (start N vs) H) :
  bQ P w K mg base CX (k+1) f (PySem.W.fnOf name qual params body scope dV kV doc pm an cdv ct) ps sp:=by
 refine⟨len,fun A outer s H args us vs Q E hr e0 hb r hsp=>?_⟩
 have hl:=len _ _ _ _ hsp
 have KX:K.In s.heap:=e0.mod.U9.keeps fun b o e=>(e0.bs b o e).1
 have lim:s.heap.NoLimit:=e0.mod.nolimit.keeps fun b o e=>(e0.bs b o e).1
 have hkind:∀y∈ps.zip us,scope.names.lookup y.1=some .local\/(scope.names.lookup y.1=some .cell/\((cellsFrom (s.heap.objs.size+1) scope.names []).lookup y.1).isSome=true):=fun⟨n,v⟩ hy=>by
  rcases S.par n (List.of_mem_zip hy).1 with q | q
  ·exact .inl q
  ·exact .inr ⟨q,PySem.W.cellsFrom_some _ _ _ (.inl q)⟩
 refine codeAny_call_function hr.depth (KX _ _ lk) rfl S.co S.gen rfl (PySem.W.codeRec_of KX hcd) (hb _ _ _ _ ?_)
 refine wpAny_newFunctionEnv_cells S.kind hkind fun env he s1 x=>?_
 subst he
 refine⟨lim.keeps x.toInCall.keep,codeAny_func ?_⟩
 obtain⟨t,ht,hq⟩:=hbody A outer s H vs Q E e0.hok (hr.deeper _) hsp
 have I:Inv (gq CX P w K mg base N qual scope f cdv A outer s H E) [] (start N vs) H s1:=zZ S hr.hd e0 hl r x
 refine gm (ht [] s1 (start N vs) H _ I hq) (fun fl s' hs=>?_) fun e s' hs=>hs
 have fin:∀{σ':St} {H':Hp} {v:V} {u:Value},Inv (gq CX P w K mg base N qual scope f cdv A outer s H E) [] σ' H' s'->RelV v u->Q v H'->CE outer P w H s Q u s':=
  fun {σ' H' v u} J rv q=>⟨v,H',J.os,J.bare,J.base,J.hok,rv,q⟩
 cases fl with
 | ret u=>
  obtain⟨v,σ',H',J,rv,q⟩:=hs
  exact fin J rv q
 | next=>
  obtain⟨σ',H',J,q⟩:=hs
  exact fin (v:=V.non) (u:=Value.none) J rfl q
 | brk=>
  obtain⟨_,_,_,q⟩:=hs
  exact False.elim q
 | cont=>
  obtain⟨_,_,_,q⟩:=hs
  exact False.elim q
theorem iW.YF {x qual:Str} {st:Stmt} {f:Addr} {fd:FuncData} {N ps:List Str} {k:Nat} {sp:Sp} (F:iW K x qual st f fd) (S:aV N ps (aH st)) (len:∀vs H Q E,sp vs H Q E->vs.length=ps.length)
  (hbody:∀(cdv:Value) (A:Around) (outer:List Env) (s:Shared) (H:Hp) (vs:List V) (Q:VK) (E:XK),lW P w H s.heap->ir k (A.deeper (envOfC qual (aH st) s.heap.objs.size f cdv))->sp vs H Q E ->
   ∃t,yI (gq (my P w) P w K mg base N qual (aH st) f cdv A outer s H E) (dD st) t/\t { nx:=fun _ H'=>Q .non H',rt:=Q } (start N vs) H):bQ P w K mg base (my P w) (k+1) f fd ps sp:=by
 obtain⟨oc,od,kV,doc,pm,an,cdv,ct,osl,rfl,lk,hcd⟩:=F.ex
 exact Rz lk hcd S len fun A outer s H vs Q E Nk hr hsp=>hbody cdv A outer s H vs Q E Nk hr hsp
structure GK (P:Program) (w:World) (K:PySem.W.Frag) (mg:Str->Option Value) (base:Heap) (k:Nat) (x:Str) (ps:List Str) (sp:Sp) where
 f:Addr
 fd:FuncData
 G:bQ P w K mg base (my P w) k f fd ps sp
 kp:PySem.W.keepIn K (.ref f)=true
 b:Binds K fd ps []
 m:mg x=some (.ref f)
def GK.mono {j k:Nat} {x:Str} {ps:List Str} {sp:Sp} (c:GK P w K mg base j x ps sp) (h:j<=k):GK P w K mg base k x ps sp:={ c with G:=c.G.mono h }
def GK.calm {k:Nat} {x:Str} {ps:List Str} {sp:Sp} (c:GK P w K mg base k x ps sp):Ct P w K mg base k x ps (fun vs H Q _=>sp vs H Q E0):=⟨c.f,c.fd,⟨fun vs H Q E h=>c.G.len _ _ _ _ h,fun A outer s H args us vs Q E hr he hb hv h=>codeAny_mono (c.G.run A outer s H args us vs Q E0 hr he hb hv h) fun r s' z=>by
 cases r with
 | error e=>
  obtain⟨_,_,_,_,_,_,_,_,_,_,_,_,_,q⟩:=z
  exact q.elim
 | ok fl=>cases fl <;> exact z⟩,c.kp,c.b,c.m⟩
end
section
variable {prog:Program} {w:World} {A:Around} {E:Value->Shared->Prop} {s:Shared} {K:PySem.W.Frag} {x D:Addr} {ox:Obj} {od:Option Obj}
structure ExK (K:PySem.W.Frag) (D:Addr):Prop where
 ga:PySem.W.findIn K (.ref D) "__getattribute__" = some (some (.builtin "BaseException.__getattribute__"))
 gt:PySem.W.findIn K (.ref D) "__getattr__" = some none
 fo:PySem.W.findObj K D none "__class__" = some (.bind (.builtin "getset_descriptor.__get__") (.builtin "object.__class__"))
 sb:PySem.W.subIn K (.ref D) (.type "BaseException")=some true
 ob:PySem.W.mroIn K D (.type "object")=some true
end
section
variable {X:Cx}
end
noncomputable instance abr:DecidableEq PyData:=fun a b=>Classical.propDecidable (a=b)
mutual
def pH:PyData->Bool
 | .int _=>true
 | .tuple ds=>fD ds
 | _=>false
def fD:List PyData->Bool
 | []=>true
 | d::ds=>pH d&&fD ds
end
theorem wB:∀{ds:List PyData},fD ds=true↔∀d∈ds,pH d=true
 | []=>by simp[fD]
 | d::ds=>by
  have ih:=wB (ds:=ds)
  simp only[fD,Bx,ih,b7,forall_eq_or_imp]
mutual
theorem pG:∀d:PyData,pH d=true->d.canLay0=true/\d.hasDict=false/\uD d=true
 | .int _,_=>⟨rfl,rfl,rfl⟩
 | .tuple ds,h=>by
  obtain⟨h1,h2,h3⟩:=J1 ds (by simpa[pH] using h)
  exact⟨by simpa[PyData.canLay0] using h1,by simpa[PyData.hasDict] using h2,by simpa[uD] using h3⟩
 | .none,h=>nomatch h
 | .bool _,h=>nomatch h
 | .str _,h=>nomatch h
 | .list _,h=>nomatch h
 | .dict _,h=>nomatch h
theorem J1:∀ds:List PyData,fD ds=true->PyData.canLayAll0 ds=true/\PyData.hasDictAll ds=false/\bM ds=true
 | [],_=>⟨rfl,rfl,rfl⟩
 | d::ds,h=>by
  have h':pH d=true/\fD ds=true:=by simpa[fD] using h
  obtain⟨h1,h2,h3⟩:=pG d h'.1
  obtain⟨g1,g2,g3⟩:=J1 ds h'.2
  exact⟨by simp[PyData.canLayAll0,h1,g1],by simp[PyData.hasDictAll,h2,g2],by simp[bM,h3,g3]⟩
end
mutual
theorem Cj:∀d e:PyData,pH d=true->pH e=true->(PyData.eqv d e=true↔d=e)
 | .int i,.int j,_,_=>by simp[PyData.eqv]
 | .int i,.tuple es,_,_=>by simp[PyData.eqv]
 | .tuple ds,.int j,_,_=>by simp[PyData.eqv]
 | .tuple ds,.tuple es,h,g=>by
  have:=Fv ds es (by simpa[pH] using h) (by simpa[pH] using g)
  simpa[PyData.eqv] using this
 | .none,_,h,_=>nomatch h
 | .bool _,_,h,_=>nomatch h
 | .str _,_,h,_=>nomatch h
 | .list _,_,h,_=>nomatch h
 | .dict _,_,h,_=>nomatch h
 | .int _,.none,_,h=>nomatch h
 | .int _,.bool _,_,h=>nomatch h
 | .int _,.str _,_,h=>nomatch h
 | .int _,.list _,_,h=>nomatch h
 | .int _,.dict _,_,h=>nomatch h
 | .tuple _,.none,_,h=>nomatch h
 | .tuple _,.bool _,_,h=>nomatch h
 | .tuple _,.str _,_,h=>nomatch h
 | .tuple _,.list _,_,h=>nomatch h
 | .tuple _,.dict _,_,h=>nomatch h
theorem Fv:∀ds es:List PyData,fD ds=true->fD es=true->(PyData.eqvAll ds es=true↔ds=es)
 | [],[],_,_=>by simp[PyData.eqvAll]
 | [],_::_,_,_=>by simp[PyData.eqvAll]
 | _::_,[],_,_=>by simp[PyData.eqvAll]
 | d::ds,e::es,h,g=>by
  have h':pH d=true/\fD ds=true:=by simpa[fD] using h
  have g':pH e=true/\fD es=true:=by simpa[fD] using g
  have h1:=Cj d e h'.1 g'.1
  have h2:=Fv ds es h'.2 g'.2
  simp[PyData.eqvAll,h1,h2]
end
theorem Ur {d e:PyData} (h:pH d=true) (g:pH e=true):PyData.eqv d e=decide (d=e):=by
 by_cases z:d=e
 ·rw[gC z]; exact(Cj d e h g).mpr z
 ·rw[gY z]
  cases q:PyData.eqv d e with
  | false=>rfl
  | true=>exact absurd ((Cj d e h g).mp q) z
mutual
def bG:PyData->Int
 | .int i=>hashInt i
 | .tuple ds=>reduceHash (Builtin.Tuple.tupleHashOf (ie ds))
 | _=>0
def ie:List PyData->List Int
 | []=>[]
 | d::ds=>bG d::ie ds
end
mutual
def Ky:PyData->Nat
 | .tuple ds=>jT ds+1
 | _=>1
def jT:List PyData->Nat
 | []=>0
 | d::ds=>Ky d+jT ds
end
theorem wU:∀a b:List PyData,ie (a++b)=ie a++ie b
 | [],_=>rfl
 | d::a,b=>by rw[List.cons_append,ie,ie,wU a b]; rfl
theorem wY:∀a b:List PyData,jT (a++b)=jT a+jT b
 | [],_=>by rw[Hs,jT,Bu]
 | d::a,b=>by rw[List.cons_append,jT,jT,wY a b,Ef]
theorem k_:∀{ds:List PyData} {d:PyData},d∈ds->d.depth<=PyData.depthAll ds
 | x::ds,d,h=>by
  show d.depth<=max x.depth (PyData.depthAll ds)
  rcases b7.mp h with rfl | h
  ·omega
  ·have:=k_ h
   omega
def Dl (prog:Program) (w:World) (d:PyData):Prop:=∀(A:Around) (E:Value->Shared->Prop) (s:Shared) (v:Value) (as:List Addr) (Q:Int->Shared->Prop),Reads s.heap v d as->A.units+d.depth<cLine ->
 Q (bG d) { s with toks:=s.toks+Ky d }->wpAny (model prog w) A (PySem.pyHash v) Q E s
theorem Rr {prog:Program} {w:World} {ds:List PyData} (ih:∀d∈ds,Dl prog w d):Dl prog w (.tuple ds):=by
 intro A E s v as Q r hu h
 cases r with
 | @tuple a o items n _ _ ho hc hd hi=>
 have hT:s.TypeIs (.ref a) "tuple" := ⟨o,ho,hc⟩
 have af2:A.units+(PyData.depthAll ds+1)<cLine:=hu
 have hu0:A.units<cLine:=by omega
 unfold pyHash
 first | unfold pyHashByItsType | skip
 first | refine aQ (wpAny_cRoomFor_or (.inr hu0) ?_) | skip
 refine aQ (zL hT F.slot_tuple_hash.lookup ?_)
 show wpAny _ _ (if(some (Value.builtin "tuple.__hash__")==some Value.none)=true then _ else _) Q E s
 rw[bB (by rw[beq_builtin_none]; exact kE)]
 refine aQ (zL hT F.slot_tuple_hash.lookup ?_)
 show wpAny _ _ (callSpecialIfBoundUnlessNone? (.ref a) "__hash__" _ >>= _) Q E s
 refine aQ (wpAny_callSpecialIfBoundUnlessNone?_slot hT F.slot_tuple_hash (vK F.slot_tuple_hash hT F.entry_tuple_hash ?_ (F.args_tuple_hash_1 _)))
 show wpAny _ _ (Builtin.Tuple.tupleItemsOf (.ref a) >>= _) _ _ s
 refine aQ (wpAny_tupleItemsOf ho hd ?_)
 refine aQ ?_
 rw[<- JF]
 refine Ew _
  (fun rest (b:Array Int) s'=>∃done left bs,ds=done++left/\ReadsAll s.heap rest left bs/\b.toList=ie done/\s'={ s with toks:=s.toks+jT done })
  _ ?_ ?_ _ _ ⟨[],ds,_,rfl,hi,rfl,rfl⟩
 ·rintro x rest b s' ⟨done,left,bs,e,hl,hb,rfl⟩
  cases hl with
  | @cons _ _ k ks' as1 YQ h1 hl'=>
   have hk:k∈ds:=by rw[e]; simp
   refine aQ (ih k hk _ _ _ _ _ _ h1 ?_ ?_)
   ·have:=k_ hk
    show A.units+1+k.depth<cLine
    omega
   ·exact bU ⟨done++[k],ks',_,by rw[e]; simp,hl',by rw[wU]; simp[hb,ie],by rw[wY]; simp[jT,Ef]⟩
 ·rintro b s' ⟨done,left,bs,e,hl,hb,rfl⟩
  cases hl
  rw[lZ] at e
  subst e
  show wpAny _ _ (retInt (Builtin.Tuple.tupleHashOf b.toList)) _ _ _
  rw[hb]
  refine wpAny_ret_mkInt ?_
  show wpAny _ _ (if(decide (-(2:Int) ^ 63<=Builtin.Tuple.tupleHashOf (ie ds))&&decide (Builtin.Tuple.tupleHashOf (ie ds)<2 ^ 63))=true then _ else _) Q E _
  unfold bG reduceHash Ky at h
  by_cases hr:(decide (-(2:Int) ^ 63<=Builtin.Tuple.tupleHashOf (ie ds))&&decide (Builtin.Tuple.tupleHashOf (ie ds)<2 ^ 63))=true
  ·rw[aL hr]
   rw[aL hr] at h
   exact bU (by simpa[Ef] using h)
  ·rw[bB hr]
   rw[bB hr] at h
   exact aQ (qw (bU (by simpa[Ef] using h)))
mutual
theorem Ad {prog:Program} {w:World}:∀d:PyData,pH d=true->Dl prog w d
 | .int i,_=>by
  intro A E s v as Q r hu h
  cases r
  exact wpAny_pyHash_int h
 | .tuple ds,h=>Rr (wR ds (by simpa[pH] using h))
 | .none,h=>nomatch h
 | .bool _,h=>nomatch h
 | .str _,h=>nomatch h
 | .list _,h=>nomatch h
 | .dict _,h=>nomatch h
theorem wR {prog:Program} {w:World}:∀ds:List PyData,fD ds=true->∀d∈ds,Dl prog w d
 | [],_,d,hd=>by cases hd
 | x::ds,h,d,hd=>by
  have h':pH x=true/\fD ds=true:=by simpa[fD] using h
  rcases b7.mp hd with e | e
  ·rw[e]; exact Ad x h'.1
  ·exact wR ds h'.2 d e
end
def uN (prog:Program) (w:World) (d:PyData):Prop:=∀(n:Nat) (A:Around) (E:Value->Shared->Prop) (s:Shared) (v:Value) (as:List Addr) (Q:Bool->Shared->Prop),Reads s.heap v d as->d.depth<=n->Q true s ->
 wpAny (model prog w) A (eqIsQuiet n v) Q E s
theorem Mg {prog:Program} {w:World} {ds:List PyData} (ih:∀d∈ds,uN prog w d):uN prog w (.tuple ds):=by
 intro n A E s v as Q r hn h
 have hn:PyData.depthAll ds+1<=n:=hn
 obtain⟨m,rfl⟩:∃m,n=m+1:=⟨n-1,by omega⟩
 cases r with
 | @tuple a o items nn _ _ ho hc hd hi=>
 have hT:s.TypeIs (.ref a) "tuple" := ⟨o,ho,hc⟩
 unfold eqIsQuiet
 refine aQ (zL hT F.slot_tuple_eq.lookup ?_)
 show wpAny _ _ (isInstance (.ref a) (.type "tuple") >>= _) _ _ s
 refine aQ (wpAny_isInstance hT isSubtype_tuple_tuple ?_)
 simp only[xZ,jk,if_false]
 refine aQ (qu ho hd ?_)
 refine aQ ?_
 show wpAny _ _ (forIn items _ _) _ _ s
 rw[<- JF]
 refine Ew _ (fun rest r s'=>r.1=none/\s'=s/\∃left bs,(∀d∈left,d∈ds)/\ReadsAll s.heap rest left bs) _ ?_ ?_ _ _ ⟨rfl,rfl,ds,_,fun d h=>h,hi⟩
 ·rintro v rest r s' ⟨hr,rfl,left,bs,hall,hl⟩
  cases hl with
  | @cons _ _ k ks' as1 YQ h1 hl'=>
  have hk:=hall k jl
  have:=k_ hk
  refine aQ (ih k hk m _ _ _ _ _ _ h1 (by omega) ?_)
  simp only[xZ,jk,if_false]
  exact bU ⟨rfl,rfl,ks',YQ,fun d h=>hall d (iM _ h),hl'⟩
 ·rintro⟨r1,r2⟩ s' ⟨hr,rfl,_⟩
  simp only at hr
  subst hr
  exact bU h
mutual
theorem vP {prog:Program} {w:World}:∀d:PyData,pH d=true->uN prog w d
 | .int i,_=>by
  intro n A E s v as Q r hu h
  cases r
  rw[eqIsQuiet_byValue _ rfl]
  exact bU h
 | .tuple ds,h=>Mg (tU ds (by simpa[pH] using h))
 | .none,h=>nomatch h
 | .bool _,h=>nomatch h
 | .str _,h=>nomatch h
 | .list _,h=>nomatch h
 | .dict _,h=>nomatch h
theorem tU {prog:Program} {w:World}:∀ds:List PyData,fD ds=true->∀d∈ds,uN prog w d
 | [],_,d,hd=>by cases hd
 | x::ds,h,d,hd=>by
  have h':pH x=true/\fD ds=true:=by simpa[fD] using h
  rcases b7.mp hd with e | e
  ·rw[e]; exact vP x h'.1
  ·exact tU ds h'.2 d e
end
mutual
theorem vH {h h':Heap} (k:∀b o,h.get? b=some o->o.cls=.type "tuple" -> (∃vs n,o.data=.seq vs n)->h'.get? b=some o):∀(d:PyData) (v:Value) (as:List Addr),pH d=true->Reads h v d as->Reads h' v d as
 | .int i,_,_,_,r=>by cases r; exact .int _ _
 | .tuple ds,_,_,g,r=>by
  cases r with
  | tuple ho hc hd hi=>exact .tuple (k _ _ ho hc ⟨_,_,hd⟩) hc hd (tR k ds _ _ (by simpa[pH] using g) hi)
 | .none,_,_,h,_=>nomatch h
 | .bool _,_,_,h,_=>nomatch h
 | .str _,_,_,h,_=>nomatch h
 | .list _,_,_,h,_=>nomatch h
 | .dict _,_,_,h,_=>nomatch h
theorem tR {h h':Heap} (k:∀b o,h.get? b=some o->o.cls=.type "tuple" -> (∃vs n,o.data=.seq vs n)->h'.get? b=some o):∀(ds:List PyData) (vs:List Value) (as:List Addr),fD ds=true->ReadsAll h vs ds as->ReadsAll h' vs ds as
 | [],_,_,_,r=>by cases r; exact .nil
 | d::ds,_,_,g,r=>by
  have g':pH d=true/\fD ds=true:=by simpa[fD] using g
  cases r with
  | cons h1 h2=>exact .cons (vH k d _ _ g'.1 h1) (tR k ds _ _ g'.2 h2)
end
noncomputable def bK (prog:Program) (w:World):HeapKind prog w PyData where
 is:=fun h d a=>pH d=true/\d.depth<=8/\∃as,Reads h (.ref a) d as
 hash:=bG
 draws:=Ky
 room:=fun A=>A.units+60<cLine
 inj:=fun⟨g,_,_,r⟩ ⟨_,_,_,r'⟩=>SeqAt.Reads.unique _ _ _ _ _ (pG _ g).1 r r'
 keeps:=fun {h h' k a d o es ep} ⟨g,dp,as,r⟩ ho hd hs=>⟨g,dp,as,vH (fun b ob hb hc ⟨vs,n,hq⟩=>by
  have hne:b≠d:=by
   rintro rfl
   obtain rfl:ob=o:=Option.some.inj (hb.symm.trans ho)
   rw[hd] at hq; exact nomatch hq
  exact(hs.2 b hne).trans hb) _ _ _ g r⟩
 pyHash:=fun hu ⟨g,dp,as,r⟩ h=>Ad _ g _ _ _ _ _ _ r (by omega) h
 eqBool:=fun {A E s x y a b Q} hu ⟨g,dp,as,r⟩ ⟨g',dp',as',r'⟩ h=>by
  have:=SeqAt.eqAt_reads x y A s _ _ _ _ r r' (pG _ g).1 (pG _ g').1 (by have:=Nat.min_le_left x.depth y.depth; omega)
  rw[Ur g g'] at this
  exact this prog w E Q h
 quiet:=fun⟨g,dp,as,r⟩ h=>vP _ g 8 _ _ _ _ _ _ r dp h
mutual
theorem At.tupS {H H':Hp} (k:∀b xs,H b=some (.tup xs)->H' b=some (.tup xs)):∀(d:PyData) (v:V),uD d=true->At H d v->At H' d v
 | .none,_,_,h=>by unfold At at h ⊢; exact h
 | .bool _,_,_,h=>by unfold At at h ⊢; exact h
 | .int _,_,_,h=>by unfold At at h ⊢; exact h
 | .str _,_,_,h=>by unfold At at h ⊢; exact h
 | .tuple ds,v,n,h=>by
  unfold At at h ⊢
  obtain⟨a,ys,e,h1,h2⟩:=h
  exact⟨a,ys,e,k _ _ h1,ak.tupS k ds ys (by simpa[uD] using n) h2⟩
 | .list _,_,n,_=>by simp[uD] at n
 | .dict _,_,n,_=>by simp[uD] at n
theorem ak.tupS {H H':Hp} (k:∀b xs,H b=some (.tup xs)->H' b=some (.tup xs)):∀(ds:List PyData) (ys:List V),bM ds=true->ak H ds ys->ak H' ds ys
 | [],_,_,h=>by unfold ak at h ⊢; exact h
 | d::ds,ys,n,h=>by
  unfold ak at h ⊢
  obtain⟨x,r,e,h1,h2⟩:=h
  have n':uD d=true/\bM ds=true:=by simpa[bM] using n
  exact⟨x,r,e,At.tupS k d x n'.1 h1,ak.tupS k ds r n'.2 h2⟩
end
structure xP (d:PyData):Prop where
 t:∃ds,d=.tuple ds
 k:pH d=true
 dp:d.depth<=8
section
variable {X:Cx} {pins:List (Addr×Obj)} {σ:St} {H:Hp} {s:Shared} {a:Addr} {kvs:List (PyData×V)}
theorem Ft (ok:lW X.prog X.w H s.heap) {d:PyData} {b:Addr} (hk:xP d) (hd:At H d (.ref b)):(bK X.prog X.w).is s.heap d b:=by
 obtain⟨as,r⟩:=km ok d (.ref b) (.ref b) hd rfl (pG _ hk.k).2.1
 exact⟨hk.k,hk.dp,as,r⟩
theorem uF {A:Around} (hu:A.units+64<cLine):(bK X.prog X.w).room A.in1:=by
 show A.units+1+60<cLine
 omega
def oX (H:Hp) (d:PyData) (y:V):Prop:=xP d/\At H d y
theorem oX.ref {d:PyData} {y:V} {u:Value} (k:oX H d y) (r:RelV y u):∃b,y=.ref b/\u=.ref b:=by
 obtain⟨⟨⟨ds,rfl⟩,_,_⟩,h⟩:=k
 unfold At at h
 obtain⟨b,_,rfl,_,_⟩:=h
 exact⟨b,rfl,r⟩
end
section
variable {X:Cx}
end
def gR:Nat->Nat->Nat
 | 0,x=>x
 | r+1,x=>gR r (5*x+1)
theorem Ie:∀(r s x:Nat),gR (r+s) x=gR s (gR r x)
 | 0,s,x=>by rw[Bu]; rfl
 | r+1,s,x=>by rw[show r+1+s=(r+s)+1 by omega]; exact Ie r s (5*x+1)
theorem Rv:∀k:Nat,∃a b:Nat,∀x,gR (2 ^ k) x=(1+4*2 ^ k*a)*x+2 ^ k*(1+2*b)
 | 0=>⟨1,0,fun x=>by show 5*x+1=(1+4*1*1)*x+1*(1+2*0); omega⟩
 | k+1=>by
  obtain⟨a,b,h⟩:=Rv k
  refine⟨a+2*2 ^ k*a*a,b+2 ^ k*a+2*b*2 ^ k*a,fun x=>?_⟩
  rw[show 2 ^ (k+1)=2 ^ k+2 ^ k by rw[Ep]; omega,Ie,h,h]
  generalize 2 ^ k=P
  grind
theorem Vb (k x:Nat):gR (2 ^ k) x % (2 ^ k*2)=(x+2 ^ k) % (2 ^ k*2):=by
 obtain⟨a,b,h⟩:=Rv k
 rw[h]
 generalize 2 ^ k=P
 have e:(1+4*P*a)*x+P*(1+2*b)=(x+P)+P*2*(2*a*x+b):=by grind
 rw[e,Nat.add_mul_mod_self_left]
theorem M4 {P z y:Nat} (h:z % P=y % P):z % (P*2)=y % (P*2)\/(z+P) % (P*2)=y % (P*2):=by
 rcases Nat.eq_zero_or_pos P with e | hp
 ·subst e
  left
  simpa using h
 ·rw[Nat.mod_mul,Nat.mod_mul (x:=y),Nat.mod_mul (x:=z+P),h,Nat.add_mod_right,h,Nat.add_div_right _ hp]
  rcases Nat.mod_two_eq_zero_or_one (z / P) with a | a <;> rcases Nat.mod_two_eq_zero_or_one (y / P) with b | b
  ·left; rw[a,b]
  ·right; rw[b,show(z / P).succ % 2=1 by omega]
  ·right; rw[b,show(z / P).succ % 2=0 by omega]
  ·left; rw[a,b]
theorem Cz:∀(k x y:Nat),∃r,r<2 ^ k/\gR r x % 2 ^ k=y % 2 ^ k
 | 0,x,y=>⟨0,by decide,by rw[Nat.pow_zero,Nat.mod_one,Nat.mod_one]⟩
 | k+1,x,y=>by
  obtain⟨r,hr,e⟩:=Cz k x y
  have hp:0<2 ^ k:=Nat.pow_pos (by decide)
  rw[Ep]
  rcases M4 e with z | z
  ·exact⟨r,by omega,z⟩
  ·exact⟨r+2 ^ k,by omega,by rw[Ie,Vb]; exact z⟩
open SetTable (Probe runEnd leap turns bits)
def Aw (m:Nat) (p:Probe):Probe:=
 if p.more>0 then { p with j:=p.j+1,more:=p.more-1 } else
 { p with j:=(leap m p.i p.perturb).1,more:=runEnd m (leap m p.i p.perturb).1-(leap m p.i p.perturb).1,i:=(leap m p.i p.perturb).1,perturb:=(leap m p.i p.perturb).2 }
theorem Yp (t:SetTable) (p:Probe):t.advance p=Aw t.mask p:=rfl
def gA (m:Nat):Nat->Probe->Probe
 | 0,p=>p
 | n+1,p=>gA m n (Aw m p)
theorem lN (m:Nat):∀(a b:Nat) (p:Probe),gA m (a+b) p=gA m b (gA m a p)
 | 0,b,p=>by rw[Bu]; rfl
 | a+1,b,p=>by rw[show a+1+b=(a+b)+1 by omega]; exact lN m a b (Aw m p)
theorem Ri (m n:Nat) (p:Probe):gA m (n+1) p=Aw m (gA m n p):=lN m n 1 p
structure WP (m:Nat) (p:Probe):Prop where
 i:p.i<=m
 j:p.j+p.more=runEnd m p.i
 q:p.perturb<2 ^ 64
 d:p.dummy=none
 ij:p.i<=p.j
theorem gU {m i:Nat} (h:i<=m):runEnd m i<=m/\i<=runEnd m i/\runEnd m i<=i+9:=by unfold runEnd; split <;> omega
theorem qI (m i q:Nat):(leap m i q).1<=m:=by
 show(i*5+1+q / 32) % (m+1)<=m
 exact Nat.le_of_lt_succ (Nat.mod_lt _ (Nat.succ_pos m))
theorem WP.Aw {m:Nat} {p:Probe} (h:WP m p):WP m (Aw m p):=by
 unfold L2.Aw
 have hj:=h.j
 by_cases c:p.more>0
 ·rw[aL c]
  exact⟨h.i,by show p.j+1+(p.more-1)=runEnd m p.i; omega,h.q,h.d,by show p.i<=p.j+1; have:=h.ij; omega⟩
 ·rw[bB c]
  have l:=qI m p.i p.perturb
  have r:=gU l
  refine⟨l,?_,?_,h.d,bF _⟩
  ·show(leap m p.i p.perturb).1+(runEnd m (leap m p.i p.perturb).1-(leap m p.i p.perturb).1)=runEnd m (leap m p.i p.perturb).1
   omega
  ·show p.perturb / 32<2 ^ 64
   have:=h.q
   omega
theorem WP.gA {m:Nat}:∀(n:Nat) {p:Probe},WP m p->WP m (gA m n p)
 | 0,_,h=>h
 | n+1,_,h=>WP.gA n h.Aw
theorem WP.le {m:Nat} {p:Probe} (h:WP m p):p.j<=m:=by
 have:=h.j
 have:=(gU h.i).1
 omega
theorem WP.more {m:Nat} {p:Probe} (h:WP m p):p.more<=9:=by
 have hj:=h.ij
 have:=h.j
 have:=(gU h.i).2.2
 omega
theorem uV (t:SetTable) (h:Int):WP t.mask (t.probeStart h):=by
 have l:bits h % (t.mask+1)<=t.mask:=Nat.le_of_lt_succ (Nat.mod_lt _ (Nat.succ_pos t.mask))
 have r:=gU l
 refine⟨l,?_,?_,rfl,bF _⟩
 ·show bits h % (t.mask+1)+(runEnd t.mask (bits h % (t.mask+1))-bits h % (t.mask+1))=runEnd t.mask (bits h % (t.mask+1))
  omega
 ·show bits h<2 ^ 64
  unfold bits
  have:=Ei h (show(0:Int)<2 ^ 64 by decide)
  have:=Eg h (show(2:Int) ^ 64≠0 by decide)
  omega
def jmp (m i q:Nat):Probe:={ j:=i,more:=runEnd m i-i,i:=i,perturb:=q,dummy:=none }
theorem qK {m:Nat}:∀(n:Nat) {p:Probe},WP m p->p.more=n->gA m (n+1) p=jmp m (leap m p.i p.perturb).1 (leap m p.i p.perturb).2
 | 0,p,h,e=>by
  show Aw m p=_
  unfold Aw
  rw[bB (by omega),h.d]; rfl
 | n+1,p,h,e=>by
  show gA m (n+1) (Aw m p)=_
  have e2:Aw m p={ p with j:=p.j+1,more:=p.more-1 }:=by unfold Aw; rw[aL (by omega)]
  have:=qK n h.Aw (by rw[e2]; show p.more-1=n; omega)
  rw[this,e2]
def tW (m:Nat):Nat->Nat->Nat->Nat×Nat
 | 0,i,q=>(i,q)
 | n+1,i,q=>tW m n (leap m i q).1 (leap m i q).2
theorem Cr {m i q:Nat} (hi:i<=m) (hq:q<2 ^ 64):WP m (jmp m i q):=by
 have r:=gU hi
 exact⟨hi,by show i+(runEnd m i-i)=runEnd m i; omega,hq,rfl,bF _⟩
theorem Rg {m i q:Nat} (hi:i<=m):(jmp m i q).more<=9:=by
 have:=gU hi
 show runEnd m i-i<=9
 omega
theorem Kg {m:Nat}:∀(n i q:Nat),i<=m->q<2 ^ 64->∃k,k<=10*n/\gA m k (jmp m i q)=jmp m (tW m n i q).1 (tW m n i q).2
 | 0,i,q,_,_=>⟨0,by omega,rfl⟩
 | n+1,i,q,hi,hq=>by
  have w:=Cr hi hq
  have e:=qK _ w rfl
  have hm:=Rg (q:=q) hi
  have hq':(leap m i q).2<2 ^ 64:=by show q / 32<2 ^ 64; omega
  obtain⟨k,hk,ek⟩:=Kg n (leap m i q).1 (leap m i q).2 (qI m i q) hq'
  refine⟨(jmp m i q).more+1+k,by omega,?_⟩
  rw[lN,e]
  exact ek
theorem Cp (m:Nat):∀(a b i q:Nat),tW m (a+b) i q=tW m b (tW m a i q).1 (tW m a i q).2
 | 0,b,i,q=>by rw[Bu]; rfl
 | a+1,b,i,q=>by rw[show a+1+b=(a+b)+1 by omega]; exact Cp m a b _ _
theorem Q4 (m:Nat):∀(n i q:Nat),(tW m n i q).2=q / 32 ^ n
 | 0,i,q=>by show q=q / 1; omega
 | n+1,i,q=>by
  have:=Q4 m n (leap m i q).1 (leap m i q).2
  show(tW m n (leap m i q).1 (leap m i q).2).2=_
  rw[this]
  show q / 32 / 32 ^ n=q / 32 ^ (n+1)
  rw[Nat.div_div_eq_div_mul,Ep,Nat.mul_comm]
theorem wD (m:Nat):∀(n i:Nat),(tW m n i 0).1 % (m+1)=gR n i % (m+1)
 | 0,i=>rfl
 | n+1,i=>by
  have h:=wD m n (leap m i 0).1
  have e2:(leap m i 0).2=0:=rfl
  show(tW m n (leap m i 0).1 (leap m i 0).2).1 % (m+1)=gR n (5*i+1) % (m+1)
  rw[e2,h]
  have e1:(leap m i 0).1 % (m+1)=(5*i+1) % (m+1):=by
   show(i*5+1+0 / 32) % (m+1) % (m+1)=_
   rw[Nat.mod_mod,show i*5+1+0 / 32=5*i+1 by omega]
  exact Ru n e1
where
 Ru {N:Nat}:∀(n:Nat) {x y:Nat},x % N=y % N->gR n x % N=gR n y % N
  | 0,_,_,h=>h
  | n+1,x,y,h=>Ru n (by rw[Nat.add_mod,Nat.mul_mod,h,<- Nat.mul_mod,<- Nat.add_mod])
theorem wF (m:Nat):∀(n i q:Nat),i<=m->(tW m n i q).1<=m
 | 0,_,_,h=>h
 | n+1,i,q,_=>wF m n _ _ (qI m i q)
theorem RP {k m:Nat} (hm:m+1=2 ^ k) {p:Probe} (w:WP m p) {y:Nat} (hy:y<=m):∃n,n<10*(m+15)/\(gA m n p).j=y:=by
 have e:=qK _ w rfl
 have hmo:=w.more
 have hq1:(leap m p.i p.perturb).2<2 ^ 64:=by have:=w.q; show p.perturb / 32<2 ^ 64; omega
 have l1:=qI m p.i p.perturb
 generalize (leap m p.i p.perturb).1=i at e l1
 generalize (leap m p.i p.perturb).2=q at e hq1
 have hz:(tW m 13 i q).2=0:=by rw[Q4]; exact Nat.div_eq_of_lt (by omega)
 have l13:=wF m 13 i q l1
 obtain⟨r,hr,er⟩:=Cz k (tW m 13 i q).1 y
 rw[<- hm] at hr er
 obtain⟨n,hn,en⟩:=Kg (13+r) i q l1 hq1
 rw[Cp,hz] at en
 have lr:=wF m r (tW m 13 i q).1 0 l13
 have ey:(tW m r (tW m 13 i q).1 0).1=y:=by
  have:=wD m r (tW m 13 i q).1
  rw[er,JB (by omega),JB (by omega)] at this
  exact this
 rw[ey] at en
 exact⟨p.more+1+n,by omega,by rw[lN,e,en]; rfl⟩
def Dj (xs:Array Nat):Prop:=∀(a b x y:Nat),xs[a]?=some x->xs[b]?=some y->a<b->x<y
theorem Dj.inj {xs:Array Nat} (h:Dj xs) {a b x:Nat} (ha:xs[a]?=some x) (hb:xs[b]?=some x):a=b:=by
 rcases Nat.lt_trichotomy a b with z | z | z
 ·have:=h _ _ _ _ ha hb z; omega
 ·exact z
 ·have:=h _ _ _ _ hb ha z; omega
theorem xO {xs:Array Nat} (R:Dj xs) {j:Nat}:∀(fuel lo hi:Nat),hi-lo<=fuel->lo<=hi->hi<=xs.size->(∀i x,i<lo->xs[i]?=some x->x<j)->(∀i x,hi<=i->xs[i]?=some x->j<=x) ->
  lo<=SetTable.below.go xs j fuel lo hi/\SetTable.below.go xs j fuel lo hi<=hi/\(∀i x,i<SetTable.below.go xs j fuel lo hi->xs[i]?=some x->x<j)/\(∀i x,SetTable.below.go xs j fuel lo hi<=i->xs[i]?=some x->j<=x)
 | 0,lo,hi,hf,h1,_,h2,h3=>by
  unfold SetTable.below.go
  have:lo=hi:=by omega
  subst this
  exact⟨bF _,bF _,h2,h3⟩
 | fuel+1,lo,hi,hf,h1,hs,h2,h3=>by
  unfold SetTable.below.go
  by_cases c:lo<hi
  ·rw[aL c]
   have hm:(lo+hi) / 2<hi/\lo<=(lo+hi) / 2:=by omega
   generalize (lo+hi) / 2=mid at hm
   have hb:mid<xs.size:=by omega
   have eg:xs.getD mid j=xs[mid]:=by simp[Array.getD,hb]
   have em:xs[mid]?=some xs[mid]:=Ek hb
   dsimp only
   rw[eg]
   by_cases d:xs[mid]<j
   ·rw[aL d]
    obtain⟨g1,g2,g3,g4⟩:=xO R fuel (mid+1) hi (by omega) (by omega) hs (fun i x hi' e=>by
     rcases Nat.lt_or_ge i mid with z | z
     ·have:=R _ _ _ _ e em z; omega
     ·have:i=mid:=by omega
      subst this
      rw[em] at e; cases e; exact d) h3
    exact⟨by omega,g2,g3,g4⟩
   ·rw[bB d]
    obtain⟨g1,g2,g3,g4⟩:=xO R fuel lo mid (by omega) (by omega) (by omega) h2 (fun i x hi' e=>by
     rcases Nat.lt_or_ge mid i with z | z
     ·have:=R _ _ _ _ em e z; omega
     ·have:i=mid:=by omega
      subst this
      rw[em] at e; cases e; omega)
    exact⟨g1,by omega,g3,g4⟩
  ·rw[bB c]
   have:lo=hi:=by omega
   subst this
   exact⟨bF _,bF _,h2,h3⟩
theorem Gw {xs:Array Nat} (R:Dj xs) (j:Nat):SetTable.below xs j<=xs.size/\(∀i x,i<SetTable.below xs j->xs[i]?=some x->x<j)/\(∀i x,SetTable.below xs j<=i->xs[i]?=some x->j<=x):=by
 have:=xO R (j:=j) xs.size 0 xs.size (by omega) (by omega) (bF _) (fun i x h=>by omega) (fun i x h e=>by
  have:=(yg.mp e).1; omega)
 exact⟨this.2.1,this.2.2.1,this.2.2.2⟩
theorem yU {t:SetTable} (R:Dj t.place) {i j:Nat} (h:t.place[i]?=some j):t.slot j=.live i:=by
 obtain⟨_,h2,h3⟩:=Gw R j
 have e:SetTable.below t.place j=i:=by
  rcases Nat.lt_trichotomy (SetTable.below t.place j) i with z | z | z
  ·have hb:SetTable.below t.place j<t.place.size:=by have:=(yg.mp h).1; omega
   have:=R _ _ _ _ (Ek hb) h z
   have:=h3 _ _ (bF _) (Ek hb)
   omega
  ·exact z
  ·have:=h2 _ _ z h; omega
 unfold SetTable.slot
 dsimp only
 rw[e,h]
 simp
theorem uY {t:SetTable} (hd:t.dummies = #[]) {j:Nat} (h:∀i:Nat,t.place[i]?≠some j):t.slot j=.empty:=by
 unfold SetTable.slot
 dsimp only
 rw[bB (by simpa using h _),hd]
 rfl
theorem UL {t:SetTable} (R:Dj t.place) (hd:t.dummies = #[]) (j:Nat):(∃i:Nat,t.place[i]?=some j/\t.slot j=.live i)\/((∀i:Nat,t.place[i]?≠some j)/\t.slot j=.empty):=by
 by_cases c:∃i:Nat,t.place[i]?=some j
 ·obtain⟨i,h⟩:=c
  exact .inl ⟨i,h,yU R h⟩
 ·have:∀i:Nat,t.place[i]?≠some j:=fun i e=>c ⟨i,e⟩
  exact .inr ⟨this,uY hd this⟩
theorem vV {t:SetTable} {hashAt:Nat->Int} {h:Int}:∀(n fuel:Nat) (p:Probe),n<fuel->(∀n',n'<n->∃i,t.slot (gA t.mask n' p).j=.live i/\(hashAt i==h)=false) ->
  SetTable.probe.go t hashAt h fuel p=SetTable.probe.go t hashAt h (fuel-n) (gA t.mask n p)
 | 0,fuel,p,_,_=>rfl
 | n+1,0,p,hf,_=>by omega
 | n+1,fuel+1,p,hf,hl=>by
  obtain⟨i,e1,e2⟩:=hl 0 (by omega)
  have e1:t.slot p.j=.live i:=e1
  have:=vV n fuel (Aw t.mask p) (by omega) fun n' hn'=>hl (n'+1) (by omega)
  rw[show fuel+1-(n+1)=fuel-n by omega]
  show SetTable.probe.go t hashAt h (fuel+1) p=SetTable.probe.go t hashAt h (fuel-n) (gA t.mask n (Aw t.mask p))
  rw[<- this]
  conv=>lhs; unfold SetTable.probe.go
  rw[e1]
  dsimp only
  rw[e2]
  rfl
theorem Fd {t:SetTable} {hashAt:Nat->Int} {h:Int} {p:Probe} {n:Nat} (w:WP t.mask p) (hn:n<10*turns t.mask) (hl:∀n',n'<n->∃i,t.slot (gA t.mask n' p).j=.live i/\(hashAt i==h)=false) (he:t.slot (gA t.mask n p).j=.empty) :
  t.probe hashAt h p=some (.empty (gA t.mask n p).j none):=by
 unfold SetTable.probe
 rw[vV n _ p hn hl]
 obtain⟨f,hf⟩:∃f,10*turns t.mask-n=f+1:=⟨10*turns t.mask-n-1,by omega⟩
 rw[hf]
 unfold SetTable.probe.go
 rw[he]
 dsimp only
 rw[(w.gA n).d]
theorem Hx {t:SetTable} {hashAt:Nat->Int} {h:Int} {p:Probe} {n i:Nat} (hn:n<10*turns t.mask) (hl:∀n',n'<n->∃i,t.slot (gA t.mask n' p).j=.live i/\(hashAt i==h)=false) (he:t.slot (gA t.mask n p).j=.live i) (hh:hashAt i=h) :
  t.probe hashAt h p=some (.candidate (gA t.mask n p).j i (gA t.mask (n+1) p)):=by
 unfold SetTable.probe
 rw[vV n _ p hn hl]
 obtain⟨f,hf⟩:∃f,10*turns t.mask-n=f+1:=⟨10*turns t.mask-n-1,by omega⟩
 rw[hf]
 unfold SetTable.probe.go
 rw[he]
 dsimp only
 rw[hh,Ri]
 simp[Yp]
end L2
namespace L2
open PySem PySem.Spec PyProof.Rows
open SetTable (Probe runEnd leap turns bits)
theorem Fz {P:Nat->Prop}:∀(n:Nat),P n->∃m,m<=n/\P m/\∀k,k<m->¬P k:=fun n h=>by
 induction n using Nat.strongRecOn with
 | _ n ih=>
  by_cases c:∃k,k<n/\P k
  ·obtain⟨k,hk,pk⟩:=c
   obtain⟨m,h1,h2,h3⟩:=ih k hk pk
   exact⟨m,by omega,h2,h3⟩
  ·exact⟨n,bF _,h,fun k hk pk=>c ⟨k,hk,pk⟩⟩
def way (m:Nat) (h:Int) (n:Nat):Nat:=(gA m n (jmp m (bits h % (m+1)) (bits h))).j
theorem yS (t:SetTable) (h:Int):t.probeStart h=jmp t.mask (bits h % (t.mask+1)) (bits h):=rfl
def Path (m:Nat) (MJ:Nat->Prop) (h:Int) (j:Nat):Prop:=∃n,way m h n=j/\∀n',n'<n->MJ (way m h n')
theorem Path.mono {m:Nat} {MJ aaf:Nat->Prop} {h:Int} {j:Nat} (p:Path m MJ h j) (k:∀y,MJ y->aaf y):Path m aaf h j:=by
 obtain⟨n,e,z⟩:=p
 exact⟨n,e,fun n' hn=>k _ (z n' hn)⟩
structure N8 (t:SetTable) (hs:List Int):Prop where
 dm:t.dummies = #[]
 ri:Dj t.place
 sz:t.place.size=hs.length
 le:∀i j:Nat,t.place[i]?=some j->j<=t.mask
 pw:∃k,3<=k/\k<=12/\t.mask+1=2 ^ k
 fl:5*hs.length<3*t.mask
 pa:∀(i:Nat) (h:Int) (j:Nat),hs[i]?=some h->t.place[i]?=some j->Path t.mask (fun y=>∃i:Nat,t.place[i]?=some y) h j
theorem N8.odd {t:SetTable} {hs:List Int} (T:N8 t hs):t.gaveWay=false:=by
 obtain⟨k,h1,_,h2⟩:=T.pw
 unfold SetTable.gaveWay
 obtain⟨k',rfl⟩:∃k',k=k'+1:=⟨k-1,by omega⟩
 rw[Ep] at h2
 have:t.mask % 2=1:=by omega
 rw[this]; rfl
theorem N8.fits {t:SetTable} {hs:List Int} (T:N8 t hs):t.fits hs.length=true:=by
 have h1:=T.sz
 have h2:=T.fl
 simp only[SetTable.fits,SetTable.fill,T.dm,h1,Bx,beq_iff_eq,decide_eq_true_eq]
 refine⟨trivial,?_⟩
 show hs.length+0<=t.mask
 omega
theorem Ls {xs:Array Nat} (R:Dj xs) {m:Nat} (h:xs.size<=m):∃y,y<=m/\∀i:Nat,xs[i]?≠some y:=by
 by_cases c:∃y,y<=m/\∀i:Nat,xs[i]?≠some y
 ·exact c
 ·exfalso
  have all:∀y,y<=m->∃i:Nat,xs[i]?=some y:=fun y hy=>by
   by_cases d:∃i:Nat,xs[i]?=some y
   ·exact d
   ·exact absurd ⟨y,hy,fun i e=>d ⟨i,e⟩⟩ c
  have up:∀y,y<=m->∃i:Nat,y<=i/\xs[i]?=some y:=by
   intro y
   induction y with
   | zero=>intro hy; obtain⟨i,hi⟩:=all 0 hy; exact⟨i,fQ _,hi⟩
   | succ y ih=>
    intro hy
    obtain⟨i,h1,h2⟩:=ih (by omega)
    obtain⟨i',h3⟩:=all (y+1) hy
    refine⟨i',?_,h3⟩
    rcases Nat.lt_or_ge i i' with z | z
    ·omega
    ·rcases Nat.lt_or_eq_of_le z with z | z
     ·have:=R _ _ _ _ h3 h2 z; omega
     ·subst z; rw[h2] at h3; cases h3
  obtain⟨i,h1,h2⟩:=up m (bF _)
  have:=(yg.mp h2).1
  omega
theorem N8.first {t:SetTable} {hs:List Int} (T:N8 t hs) {p:Probe} (w:WP t.mask p):∃M,M<10*turns t.mask/\(∀n,n<M->∃i:Nat,t.place[i]?=some (gA t.mask n p).j/\t.slot (gA t.mask n p).j=.live i)/\(∀i:Nat,t.place[i]?≠some (gA t.mask M p).j)/\t.slot (gA t.mask M p).j=.empty:=by
 obtain⟨k,_,_,hk⟩:=T.pw
 have h2:=T.fl
 obtain⟨y,hy,hn⟩:=Ls T.ri (m:=t.mask) (by rw[T.sz]; omega)
 obtain⟨n,n1,n2⟩:=RP hk w hy
 obtain⟨M,m1,m2,m3⟩:=Fz (P:=fun n=>∀i:Nat,t.place[i]?≠some (gA t.mask n p).j) n (by rw[n2]; exact hn)
 refine⟨M,by unfold turns; omega,fun n hn'=>?_,m2,uY T.dm m2⟩
 rcases UL T.ri T.dm (gA t.mask n p).j with⟨i,z⟩ | ⟨z,_⟩
 ·exact⟨i,z⟩
 ·exact absurd z (m3 n hn')
theorem m_ {xs:Array Nat} {p x i:Nat} (hp:p<=xs.size):(SetTable.insertAt xs p x)[i]?=if i<p then xs[i]? else if i=p then some x else xs[i-1]?:=by
 rw[<- Ej,SetTable.toList_insertAt,<- Ej,<- Ej]
 have hl:(xs.toList.take p).length=p:=by rw[jj,l_]; omega
 by_cases c:i<p
 ·rw[aL c,BL (by omega),List.getElem?_take,aL c]
 ·rw[bB c,vM (by omega),hl]
  by_cases d:i=p
  ·rw[aL d,d,vI]; rfl
  ·rw[bB d]
   obtain⟨q,hq⟩:∃q,i-p=q+1:=⟨i-p-1,by omega⟩
   rw[hq,Qq,Ey]
   congr 1
   omega
theorem Rj {α:Type} {xs:List α} {p i:Nat} {x:α} (hp:p<=xs.length):(xs.take p++x::xs.drop p)[i]?=if i<p then xs[i]? else if i=p then some x else xs[i-1]?:=by
 have hl:(xs.take p).length=p:=by rw[jj]; omega
 by_cases c:i<p
 ·rw[aL c,BL (by omega),List.getElem?_take,aL c]
 ·rw[bB c,vM (by omega),hl]
  by_cases d:i=p
  ·rw[aL d,d,vI]; rfl
  ·rw[bB d]
   obtain⟨q,hq⟩:∃q,i-p=q+1:=⟨i-p-1,by omega⟩
   rw[hq,Qq,Ey]
   congr 1
   omega
structure YX (t:SetTable) (hs:List Int):Prop where
 dm:t.dummies = #[]
 ri:Dj t.place
 sz:t.place.size=hs.length
 le:∀i j:Nat,t.place[i]?=some j->j<=t.mask
 pw:∃k,3<=k/\k<=12/\t.mask+1=2 ^ k
 fl:hs.length<=t.mask
 pa:∀(i:Nat) (h:Int) (j:Nat),hs[i]?=some h->t.place[i]?=some j->Path t.mask (fun y=>∃i:Nat,t.place[i]?=some y) h j
theorem Xk {t:SetTable} {j:Nat} (hd:t.dummies = #[]):t.put j=({ t with place:=SetTable.insertAt t.place (SetTable.below t.place j) j,dummies:=#[] },SetTable.below t.place j):=by
 unfold SetTable.put
 rw[hd]; rfl
theorem N8.put {t:SetTable} {hs:List Int} (T:N8 t hs) {h:Int} {j:Nat} (hj:j<=t.mask) (hn:∀i:Nat,t.place[i]?≠some j) (hp:Path t.mask (fun y=>∃i:Nat,t.place[i]?=some y) h j) :
  YX (t.put j).1 (hs.take (t.put j).2++h::hs.drop (t.put j).2)/\(t.put j).2<=hs.length/\(t.put j).1.mask=t.mask/\(t.put j).1.dummies = #[]:=by
 rw[Xk T.dm]
 dsimp only
 obtain⟨b1,b2,b3⟩:=Gw T.ri j
 generalize SetTable.below t.place j=p at b1 b2 b3
 have hpl:p<=hs.length:=by rw[<- T.sz]; exact b1
 have fl:=T.fl
 have MJ:∀y,(∃i:Nat,t.place[i]?=some y)->∃i:Nat,(SetTable.insertAt t.place p j)[i]?=some y:=fun y ⟨i,e⟩=>by
  by_cases c:i<p
  ·exact⟨i,by rw[m_ b1,aL c]; exact e⟩
  ·exact⟨i+1,by rw[m_ b1,bB (by omega),bB (by omega)]; exact e⟩
 refine⟨⟨rfl,?_,?_,?_,T.pw,?_,?_⟩,hpl,rfl,rfl⟩
 ·intro a b x y ha hb hab
  rw[m_ b1] at ha hb
  by_cases c1:a<p
  ·rw[aL c1] at ha
   by_cases c2:b<p
   ·rw[aL c2] at hb; exact T.ri _ _ _ _ ha hb hab
   ·rw[bB c2] at hb
    have:=b2 _ _ c1 ha
    by_cases c3:b=p
    ·rw[aL c3] at hb; cases hb; exact this
    ·rw[bB c3] at hb
     have:=b3 _ _ (by omega) hb
     omega
  ·rw[bB c1] at ha
   rw[bB (by omega),bB (by omega)] at hb
   by_cases c3:a=p
   ·rw[aL c3] at ha; cases ha
    have h1:=b3 _ _ (by omega) hb
    rcases Nat.lt_or_eq_of_le h1 with z | z
    ·exact z
    ·subst z; exact absurd hb (hn _)
   ·rw[bB c3] at ha
    exact T.ri _ _ _ _ ha hb (by omega)
 ·rw[<- l_,SetTable.toList_insertAt]
  simp only[fP,jj,jD,vJ,l_,T.sz]
 ·intro i y hy
  rw[m_ b1] at hy
  by_cases c1:i<p
  ·rw[aL c1] at hy; exact T.le _ _ hy
  ·rw[bB c1] at hy
   by_cases c3:i=p
   ·rw[aL c3] at hy; cases hy; exact hj
   ·rw[bB c3] at hy; exact T.le _ _ hy
 ·simp only[fP,jj,jD,vJ]
  obtain⟨k,k1,_,k2⟩:=T.pw
  have:2 ^ 3<=2 ^ k:=LC (by decide) k1
  show min p hs.length+(hs.length-p+1)<=t.mask
  omega
 ·intro i g y hg hy
  rw[Rj hpl] at hg
  rw[m_ b1] at hy
  by_cases c1:i<p
  ·rw[aL c1] at hg hy; exact(T.pa _ _ _ hg hy).mono MJ
  ·rw[bB c1] at hg hy
   by_cases c3:i=p
   ·rw[aL c3] at hg hy; cases hg; cases hy; exact hp.mono MJ
   ·rw[bB c3] at hg hy; exact(T.pa _ _ _ hg hy).mono MJ
theorem YX.ti {t:SetTable} {hs:List Int} (T:YX t hs) (h:t.tooFull=false):N8 t hs:=by
 refine⟨T.dm,T.ri,T.sz,T.le,T.pw,?_,T.pa⟩
 have:¬(t.fill*5≥t.mask*3):=by simpa[SetTable.tooFull] using h
 have e:t.fill=hs.length:=by
  show t.place.size+t.dummies.size=hs.length
  rw[T.dm,T.sz]; rfl
 rw[e] at this
 omega
end L2
namespace L2
open PySem PySem.Spec PyProof.Rows
open SetTable (Probe runEnd leap turns bits)
theorem wK {m:Nat}:∀(n:Nat) {p:Probe},n<=p.more->(gA m n p).j=p.j+n
 | 0,p,_=>rfl
 | n+1,p,h=>by
  have e2:Aw m p={ p with j:=p.j+1,more:=p.more-1 }:=by unfold Aw; rw[aL (by omega)]
  have:=wK (m:=m) n (p:=Aw m p) (by rw[e2]; show n<=p.more-1; omega)
  show(gA m n (Aw m p)).j=p.j+(n+1)
  rw[this,e2]
  show p.j+1+n=p.j+(n+1)
  omega
theorem Q5 {k m:Nat} (hm:m+1=2 ^ k) {i q y:Nat} (hi:i<=m) (hq:q<2 ^ 64) (hy:y<=m):∃L,L<turns m/\(tW m L i q).1=y:=by
 have hz:(tW m 13 i q).2=0:=by rw[Q4]; exact Nat.div_eq_of_lt (by omega)
 have l13:=wF m 13 i q hi
 obtain⟨r,hr,er⟩:=Cz k (tW m 13 i q).1 y
 rw[<- hm] at hr er
 have lr:=wF m r (tW m 13 i q).1 0 l13
 have ey:(tW m r (tW m 13 i q).1 0).1=y:=by
  have:=wD m r (tW m 13 i q).1
  rw[er,JB (by omega),JB (by omega)] at this
  exact this
 exact⟨13+r,by unfold turns; omega,by rw[Cp,hz]; exact ey⟩
theorem Ks {m:Nat} {ow:Array (Option Nat)}:∀(fuel i q:Nat),i<=m->q<2 ^ 64->(∃L,L<fuel/\ow.getD (tW m L i q).1 (some 0)=none) ->
  ∃n,SetTable.layClean.free m ow fuel i q=some (gA m n (jmp m i q)).j/\ow.getD (gA m n (jmp m i q)).j (some 0)=none/\∀n',n'<n->ow.getD (gA m n' (jmp m i q)).j (some 0)≠none
 | 0,i,q,_,_,h=>by obtain⟨L,h,_⟩:=h; omega
 | fuel+1,i,q,hi,hq,h=>by
  unfold SetTable.layClean.free
  have r:=gU hi
  have hmo:(jmp m i q).more=runEnd m i-i:=rfl
  have hj:(jmp m i q).j=i:=rfl
  cases ef:(List.range (runEnd m i+1-i)).find? fun k=>(ow.getD (i+k) (some 0)).isNone with
  | some k=>
   obtain⟨k1,l1,l2,e1,e2⟩:=List.find?_eq_some_iff_append.mp ef
   have hk:k<runEnd m i+1-i:=rR.mp (by rw[e1]; simp)
   refine⟨k,?_,?_,fun n' hn'=>?_⟩
   ·rw[wK k (by omega)]; rfl
   ·rw[wK k (by omega),hj]; exact Option.isNone_iff_eq_none.mp k1
   ·rw[wK n' (by omega),hj]
    intro z
    have hm1:n'∈l1:=by
     have hmem:n'∈List.range (runEnd m i+1-i):=rR.mpr (by omega)
     have hpw:=List.pairwise_lt_range (n:=runEnd m i+1-i)
     rw[e1] at hmem hpw
     rcases oH.mp hmem with z | z
     ·exact z
     ·exfalso
      rcases b7.mp z with z | z
      ·omega
      ·have:=(List.pairwise_cons.mp (List.pairwise_append.mp hpw).2.1).1 _ z
       omega
    have:=e2 _ hm1
    rw[z] at this
    exact absurd this (by decide)
  | none=>
   have hno:∀n',n'<=(jmp m i q).more->ow.getD (gA m n' (jmp m i q)).j (some 0)≠none:=fun n' hn' z=>by
    rw[wK n' hn',hj] at z
    have:=List.find?_eq_none.mp ef n' (rR.mpr (by omega))
    rw[z] at this
    exact absurd rfl this
   obtain⟨L,hL,eL⟩:=h
   have L0:L≠0:=fun z=>by
    subst z
    exact hno 0 (fQ _) eL
   obtain⟨L',rfl⟩:∃L',L=L'+1:=⟨L-1,by omega⟩
   have hq':(leap m i q).2<2 ^ 64:=by show q / 32<2 ^ 64; omega
   obtain⟨n,h1,h2,h3⟩:=Ks fuel (leap m i q).1 (leap m i q).2 (qI m i q) hq' ⟨L',by omega,eL⟩
   have e:=qK _ (Cr hi hq) rfl
   have es:∀n',gA m ((jmp m i q).more+1+n') (jmp m i q)=gA m n' (jmp m (leap m i q).1 (leap m i q).2):=fun n'=>by rw[lN,e]; rfl
   refine⟨(jmp m i q).more+1+n,?_,?_,fun n' hn'=>?_⟩
   ·rw[es]; exact h1
   ·rw[es]; exact h2
   ·by_cases c:n'<=(jmp m i q).more
    ·exact hno n' c
    ·obtain⟨d,hd⟩:∃d,n'=(jmp m i q).more+1+d:=⟨n'-((jmp m i q).more+1),by omega⟩
     rw[hd,es]
     exact h3 d (by omega)
structure OW (m:Nat) (ow:Array (Option Nat)) (hs:List Int):Prop where
 sz:ow.size=m+1
 ct:ow.toList.countP Option.isSome=hs.length
 at_:∀(l:Nat) (h:Int),hs[l]?=some h->∃j,j<=m/\ow[j]?=some (some l)/\Path m (fun y=>∃l,ow[y]?=some (some l)) h j
 lt:∀j l:Nat,ow[j]?=some (some l)->l<hs.length
 inj:∀j j' l:Nat,ow[j]?=some (some l)->ow[j']?=some (some l)->j=j'
theorem getD_none {ow:Array (Option Nat)} {j:Nat} (h:ow.getD j (some 0)=none):ow[j]?=some none:=by
 rw[Mf] at h
 cases e:ow[j]? with
 | none=>rw[e] at h; cases h
 | some o=>rw[e] at h; exact gW some h
theorem OW.push {k m:Nat} (hm:m+1=2 ^ k) {ow:Array (Option Nat)} {hs:List Int} (W:OW m ow hs) (h:Int) (hl:hs.length<=m) :
  ∃j,SetTable.layClean.free m ow (turns m) (bits h % (m+1)) (bits h)=some j/\OW m (ow.setIfInBounds j (some hs.length)) (hs++[h]):=by
 have hb:bits h<2 ^ 64:=by
  unfold bits
  have:=Ei h (show(0:Int)<2 ^ 64 by decide)
  have:=Eg h (show(2:Int) ^ 64≠0 by decide)
  omega
 have hi:bits h % (m+1)<=m:=Nat.le_of_lt_succ (Nat.mod_lt _ (Nat.succ_pos m))
 obtain⟨y,hy,ey⟩:∃y,y<=m/\ow.getD y (some 0)=none:=by
  by_cases c:∃y,y<=m/\ow.getD y (some 0)=none
  ·exact c
  ·exfalso
   have:ow.toList.countP Option.isSome=ow.toList.length:=List.countP_eq_length.mpr fun o ho=>by
    obtain⟨i,hi⟩:=Qp.mp ho
    cases o with
    | some _=>rfl
    | none=>
     have hlt:i<ow.toList.length:=(iQ.mp hi).1
     rw[l_,W.sz] at hlt
     rw[Ej] at hi
     exact absurd ⟨i,by omega,by rw[Mf,hi]; rfl⟩ c
   have h2:ow.toList.length=m+1:=by rw[l_,W.sz]
   have h3:=W.ct
   omega
 obtain⟨L,hL,eL⟩:=Q5 hm hi hb hy
 obtain⟨n,f1,f2,f3⟩:=Ks (ow:=ow) (turns m) _ _ hi hb ⟨L,hL,by rw[eL]; exact ey⟩
 have wj:(gA m n (jmp m (bits h % (m+1)) (bits h))).j<=m:=((Cr hi hb).gA n).le
 have f3:∀n',n'<n->ow.getD (way m h n') (some 0)≠none:=f3
 have ej:(gA m n (jmp m (bits h % (m+1)) (bits h))).j=way m h n:=rfl
 rw[ej] at f1 f2 wj
 have g2:=getD_none f2
 refine⟨_,f1,?_⟩
 generalize hj:way m h n=j at f1 f2 wj g2
 have hjs:j<ow.size:=by rw[W.sz]; omega
 have get:∀y:Nat,(ow.setIfInBounds j (some hs.length))[y]?=if y=j then some (some hs.length) else ow[y]?:=fun y=>by
  rw[Array.getElem?_setIfInBounds]
  by_cases c:j=y
  ·subst c; simp[hjs]
  ·rw[bB c,bB (fun z=>c z.symm)]
 have MJ:∀y:Nat,(∃l,ow[y]?=some (some l))->∃l,(ow.setIfInBounds j (some hs.length))[y]?=some (some l):=fun y ⟨l,e⟩=>by
  rw[get]
  by_cases c:y=j
  ·exact⟨_,aL c⟩
  ·exact⟨l,by rw[bB c]; exact e⟩
 refine⟨by rw[Array.size_setIfInBounds]; exact W.sz,?_,fun l h' hl'=>?_,fun y l hy'=>?_,fun y y' l h1 h2=>?_⟩
 ·rw[Array.toList_setIfInBounds,List.countP_set (by rw[l_]; exact hjs),W.ct,fP]
  have e0:ow.toList[j]'(by rw[l_]; exact hjs)=none:=by
   have:=Ek hjs
   rw[g2] at this
   simpa using this.symm
  rw[e0]
  simp
 ·by_cases c:l<hs.length
  ·rw[BL c] at hl'
   obtain⟨y',h1,h2,h3⟩:=W.at_ _ _ hl'
   refine⟨y',h1,?_,h3.mono MJ⟩
   rw[get,bB (fun z=>by rw[z,g2] at h2; cases h2)]
   exact h2
  ·have hl2:l<(hs++[h]).length:=(iQ.mp hl').1
   rw[fP] at hl2
   have e:l=hs.length:=by simp at hl2; omega
   subst e
   rw[vM (bF _),vI] at hl'
   cases hl'
   refine⟨j,wj,by rw[get,aL rfl],n,hj,fun n' hn'=>?_⟩
   refine MJ _ ?_
   have z:=f3 n' hn'
   cases e:ow[way m h n']? with
   | none=>
    exfalso
    have:way m h n'<=m:=((Cr hi hb).gA n').le
    have:=Array.getElem?_eq_none_iff.mp e
    rw[W.sz] at this
    omega
   | some o=>
    cases o with
    | none=>exact absurd (by rw[Mf,e]; rfl) z
    | some l=>exact⟨l,rfl⟩
 ·rw[get] at hy'
  rw[fP]
  by_cases c:y=j
  ·rw[aL c] at hy'; cases hy'; simp
  ·rw[bB c] at hy'; have:=W.lt _ _ hy'; simp; omega
 ·rw[get] at h1 h2
  by_cases c1:y=j
  ·rw[aL c1] at h1; cases h1
   by_cases c2:y'=j
   ·rw[c1,c2]
   ·rw[bB c2] at h2; have:=W.lt _ _ h2; omega
  ·rw[bB c1] at h1
   by_cases c2:y'=j
   ·rw[aL c2] at h2; cases h2; have:=W.lt _ _ h1; omega
   ·rw[bB c2] at h2; exact W.inj _ _ _ h1 h2
def uK (m:Nat) (acc:Option (Array (Option Nat)×Nat)) (h:Int):Option (Array (Option Nat)×Nat):=do
  let (owner,k) <- acc
  let j <- SetTable.layClean.free m owner (turns m) (bits h % (m+1)) (bits h)
  pure (owner.setIfInBounds j (some k),k+1)
theorem FN {k m:Nat} (hm:m+1=2 ^ k):∀(rest hs:List Int) (ow:Array (Option Nat)),OW m ow hs->(hs++rest).length<=m+1 ->
  ∃ow',rest.foldl (uK m) (some (ow,hs.length))=some (ow',(hs++rest).length)/\OW m ow' (hs++rest)
 | [],hs,ow,W,_=>⟨ow,by rw[lZ]; rfl,by rw[lZ]; exact W⟩
 | h::rest,hs,ow,W,hl=>by
  rw[fP,jD] at hl
  obtain⟨j,f,W'⟩:=W.push hm h (by omega)
  obtain⟨ow',e,W''⟩:=FN hm rest (hs++[h]) _ W' (by simp; omega)
  rw[vL] at e W''
  refine⟨ow',?_,W''⟩
  rw[List.foldl_cons]
  have e1:uK m (some (ow,hs.length)) h=some (ow.setIfInBounds j (some hs.length),(hs++[h]).length):=by
   show(do let j <- SetTable.layClean.free m ow (turns m) (bits h % (m+1)) (bits h); pure (ow.setIfInBounds j (some hs.length),hs.length+1))=_
   rw[f,fP]; rfl
  rw[e1]
  exact e
theorem OW.nil (m:Nat):OW m (Array.replicate (m+1) none) []:=by
 have get:∀(j:Nat) (o:Option Nat),(Array.replicate (m+1) (none:Option Nat))[j]?=some o->o=none:=fun j o h=>by
  rw[Array.getElem?_replicate] at h
  split at h
  ·cases h; rfl
  ·cases h
 exact⟨by simp,by simp,fun l h z=>by simp at z,fun j l h=>(by have:=get _ _ h; cases this),fun j j' l h _=>(by have:=get _ _ h; cases this)⟩
theorem FP {k m:Nat} (hm:m+1=2 ^ k) (hs:Array Int) (hl:hs.size<=m+1):∃ow,SetTable.layClean m hs=some ow/\OW m ow hs.toList:=by
 obtain⟨ow,e,W⟩:=FN hm hs.toList [] _ (OW.nil m) (by simpa using hl)
 refine⟨ow,?_,by simpa using W⟩
 have e2:SetTable.layClean m hs=(hs.foldl (uK m) (some (Array.replicate (m+1) none,0))).map (·.1):=rfl
 rw[e2,<- Array.foldl_toList]
 have e3:List.foldl (uK m) (some (Array.replicate (m+1) none,0)) hs.toList=some (ow,([]++hs.toList).length):=e
 rw[e3]; rfl
theorem RC {α β:Type} {f:α->Option β}:∀{l:List α} (i:Nat),(∀x∈l,(f x).isSome=true)->(l.filterMap f)[i]?=l[i]?.bind f
 | [],i,_=>by simp
 | x::l,i,h=>by
  obtain⟨y,hy⟩:=Hv.mp (h x (by simp))
  rw[List.filterMap_cons_some hy]
  cases i with
  | zero=>simp[hy]
  | succ i=>rw[Qq,Qq]; exact RC i fun z hz=>h z (by simp[hz])
theorem Ig {α β:Type} {f:α->Option β}:∀{l:List α},(∀x∈l,(f x).isSome=true)->(l.filterMap f).length=l.length
 | [],_=>rfl
 | x::l,h=>by
  obtain⟨y,hy⟩:=Hv.mp (h x (by simp))
  rw[List.filterMap_cons_some hy,jD,jD,Ig fun z hz=>h z (by simp[hz])]
def d_ (m:Nat) (ow:Array (Option Nat)):List (Nat×Nat):=(List.range (m+1)).filterMap fun j=>(ow.getD j none).map (j,·)
theorem jr {m:Nat} {ow:Array (Option Nat)} {j l:Nat} (hs:ow.size=m+1):(j,l)∈d_ m ow↔ow[j]?=some (some l):=by
 unfold d_
 rw[List.mem_filterMap]
 constructor
 ·rintro⟨y,h1,h2⟩
  obtain⟨l',h3,h4⟩:=mX.mp h2
  cases h4
  rw[Mf] at h3
  cases e:ow[j]? with
  | none=>rw[e] at h3; cases h3
  | some o=>rw[e] at h3; exact gW some h3
 ·intro h
  have:=(yg.mp h).1
  exact⟨j,rR.mpr (by omega),by rw[Mf,h]; rfl⟩
theorem J7 {m:Nat} {ow:Array (Option Nat)}:(d_ m ow).Pairwise fun p q=>p.1<q.1:=by
 unfold d_
 refine List.Pairwise.filterMap _ ?_ List.pairwise_lt_range
 intro a a' h b hb b' hb'
 obtain⟨_,_,rfl⟩:=mX.mp hb
 obtain⟨_,_,rfl⟩:=mX.mp hb'
 exact h
theorem Q7 {m:Nat} {ow:Array (Option Nat)} {hs:List Int} (W:OW m ow hs):(d_ m ow).length=hs.length:=by
 unfold d_
 rw[List.length_filterMap_eq_countP,<- W.ct]
 have e:ow.toList=(List.range (m+1)).map fun j=>ow.getD j none:=by
  apply List.ext_getElem?
  intro i
  rw[Ej,gM]
  by_cases c:i<m+1
  ·rw[List.getElem?_range c]
   have hb:i<ow.size:=by rw[W.sz]; exact c
   rw[Option.map_some,Mf,Ek hb]; rfl
  ·rw[E_ (by simp; omega),Array.getElem?_eq_none (by rw[W.sz]; omega)]; rfl
 rw[e,List.countP_map]
 congr 1
 funext j
 simp
theorem U5 {k m:Nat} (h3:3<=k) (h12:k<=12) (hm:m+1=2 ^ k) {fi mo:Nat} {le pl:Bool} (hs:Array Int) (hl:5*hs.size<3*m) :
  ∃t order,SetTable.laid m fi mo le pl hs=some (t,order)/\order.toList.length=hs.size/\(∀l∈order.toList,l<hs.size)/\(∀l,l<hs.size->l∈order.toList)/\order.toList.Nodup/\N8 t (order.toList.filterMap (hs.toList[·]?)):=by
 obtain⟨ow,e,W⟩:=FP hm hs (by omega)
 have e1:SetTable.laid m fi mo le pl hs=some ({ mask:=m,place:=((d_ m ow).map (·.1)).toArray,dummies:=#[],finger:=fi,led:=le,moves:=mo,plain:=pl },((d_ m ow).map (·.2)).toArray):=by
  unfold SetTable.laid
  rw[e]; rfl
 have hlen:=Q7 W
 rw[l_] at hlen
 have lt:∀l∈(d_ m ow).map (·.2),l<hs.size:=fun l hl=>by
  obtain⟨⟨j,l'⟩,h1,h2⟩:=iK.mp hl
  cases h2
  have:=W.lt _ _ ((jr W.sz).mp h1)
  simpa using this
 have all:∀l,l<hs.size->l∈(d_ m ow).map (·.2):=fun l hl=>by
  obtain⟨j,h1,h2,_⟩:=W.at_ l hs[l] (by simp[hl])
  exact iK.mpr ⟨(j,l),(jr W.sz).mpr h2,rfl⟩
 have some_:∀l∈(d_ m ow).map (·.2),(hs.toList[l]?).isSome=true:=fun l hl=>by
  have:=lt l hl
  rw[fM (by simpa using this)]; rfl
 have ndp:((d_ m ow).map (·.2)).Nodup:=by
  rw[List.Nodup,List.pairwise_map,Qv]
  intro a b ha hb hab z
  have:=Qv.mp (J7 (m:=m) (ow:=ow)) a b ha hb hab
  have g1:ow[(d_ m ow)[a].1]?=some (some (d_ m ow)[a].2):=(jr W.sz).mp (BJ ha)
  have g2:ow[(d_ m ow)[b].1]?=some (some (d_ m ow)[b].2):=(jr W.sz).mp (BJ hb)
  rw[z] at g1
  have:=W.inj _ _ _ g1 g2
  omega
 refine⟨_,_,e1,?_,lt,all,ndp,?_⟩
 ·show((d_ m ow).map (·.2)).length=hs.size
  rw[bR]; exact hlen
 ·have ab1:((d_ m ow).map (·.1)).length=hs.size:=by rw[bR]; exact hlen
  have Z7:(((d_ m ow).map (·.2)).filterMap (hs.toList[·]?)).length=hs.size:=by rw[Ig some_,bR]; exact hlen
  have Ud:∀i j:Nat,(((d_ m ow).map (·.1)).toArray)[i]?=some j->∃l,(d_ m ow)[i]?=some (j,l):=fun i j h=>by
   rw[JK,gM] at h
   obtain⟨⟨j',l⟩,h1,h2⟩:=mX.mp h
   cases h2
   exact⟨l,h1⟩
  have MJ:∀y,(∃l,ow[y]?=some (some l))->∃i:Nat,(((d_ m ow).map (·.1)).toArray)[i]?=some y:=fun y ⟨l,h⟩=>by
   obtain⟨i,hi⟩:=Qp.mp ((jr W.sz).mpr h)
   exact⟨i,by rw[JK,gM,hi]; rfl⟩
  refine⟨rfl,?_,?_,?_,⟨k,h3,h12,hm⟩,?_,?_⟩
  ·intro a b x y ha hb hab
   obtain⟨l,h1⟩:=Ud _ _ ha
   obtain⟨l',h2⟩:=Ud _ _ hb
   obtain⟨g1,g2⟩:=iQ.mp h1
   obtain⟨g3,g4⟩:=iQ.mp h2
   have:=Qv.mp (J7 (m:=m) (ow:=ow)) a b g1 g3 hab
   rw[g2,g4] at this
   exact this
  ·show((d_ m ow).map (·.1)).toArray.size=_
   rw[fB,ab1,Z7]
  ·intro i j h
   obtain⟨l,h1⟩:=Ud _ _ h
   have:=(jr W.sz).mp (jm h1)
   have:=(yg.mp this).1
   rw[W.sz] at this
   show j<=m
   omega
  ·show 5*(((d_ m ow).map (·.2)).filterMap (hs.toList[·]?)).length<3*m
   rw[Z7]; exact hl
  ·intro i h j h1 h2
   obtain⟨l,g1⟩:=Ud _ _ h2
   have h1:(((d_ m ow).map (·.2)).filterMap (hs.toList[·]?))[i]?=some h:=h1
   rw[RC i some_,gM,g1] at h1
   have h1:hs.toList[l]?=some h:=h1
   obtain⟨j',f1,f2,f3⟩:=W.at_ _ _ h1
   have:=W.inj _ _ _ f2 ((jr W.sz).mp (jm g1))
   subst this
   exact f3.mono MJ
theorem GC (n:Nat):∀(fuel k:Nat),n<2 ^ (k+fuel)->3<=k->∃k',SetTable.sizeAbove.go n fuel (2 ^ k)=2 ^ k'/\k<=k'/\n<2 ^ k'/\(k'=k\/2 ^ (k'-1)<=n)
 | 0,k,h,_=>⟨k,rfl,bF _,h,.inl rfl⟩
 | fuel+1,k,h,h3=>by
  unfold SetTable.sizeAbove.go
  by_cases c:2 ^ k<=n
  ·rw[aL c,<- Ep]
   obtain⟨k',h1,h2,h4,h5⟩:=GC n fuel (k+1) (by rw[show k+1+fuel=k+(fuel+1) by omega]; exact h) (by omega)
   refine⟨k',h1,by omega,h4,.inr ?_⟩
   rcases h5 with z | z
   ·rw[z]; exact c
   ·exact z
  ·rw[bB c]
   exact⟨k,rfl,bF _,by omega,.inl rfl⟩
theorem R3 {n:Nat} (h:n<2 ^ 12):∃k,SetTable.sizeAbove n=2 ^ k/\3<=k/\k<=12/\n<2 ^ k:=by
 obtain⟨k,h1,h2,h3,h4⟩:=GC n 64 3 (kI h (LC (by decide) (by decide))) (bF _)
 refine⟨k,h1,h2,?_,h3⟩
 rcases h4 with z | z
 ·omega
 ·have:¬12<k:=fun q=>by
   have:2 ^ 12<=2 ^ (k-1):=LC (by decide) (by omega)
   omega
  omega
theorem Lw {t:SetTable} (hs:Array Int) (hn:1<=hs.size) (hl:hs.size<=1000):∃t' order,t.relaid hs (SetTable.grown hs.size)=some (t',order)/\order.toList.length=hs.size/\(∀l∈order.toList,l<hs.size)/\(∀l,l<hs.size->l∈order.toList)/\order.toList.Nodup/\N8 t' (order.toList.filterMap (hs.toList[·]?))/\SetTable.sizeAbove (SetTable.grown hs.size)<=4096:=by
 have eg:SetTable.grown hs.size=hs.size*4:=by unfold SetTable.grown; rw[bB (by omega)]
 rw[eg]
 obtain⟨k,h1,h2,h3,h4⟩:=R3 (n:=hs.size*4) (by omega)
 unfold SetTable.relaid
 rw[h1]
 have hp:2 ^ k-1+1=2 ^ k:=by omega
 obtain⟨t',order,g1,g2,g3,g4,g6,g5⟩:=U5 (fi:=t.finger) (mo:=t.movedTo (2 ^ k-1)) (le:=t.led) (pl:=t.plain) h2 h3 hp hs (by omega)
 exact⟨t',order,g1,g2,g3,g4,g6,g5,(LC (n:=2) (j:=12) (by decide) h3)⟩
end L2
namespace L2
open PySem PySem.Spec PyProof.Rows
open SetTable (Probe runEnd leap turns bits)
def K8 (prog:Program) (w:World) (d:PyData):Prop:=∀(n:Nat) (A:Around) (E:Value->Shared->Prop) (s:Shared) (v:Value) (as:List Addr) (Q:Bool->Shared->Prop),Reads s.heap v d as->d.depth<=n->Q false s ->
 wpAny (model prog w) A (ofAClassStatement n v) Q E s
theorem Vj {prog:Program} {w:World} {ds:List PyData} (ih:∀d∈ds,K8 prog w d):K8 prog w (.tuple ds):=by
 intro n A E s v as Q r hn h
 have hn:PyData.depthAll ds+1<=n:=hn
 obtain⟨m,rfl⟩:∃m,n=m+1:=⟨n-1,by omega⟩
 cases r with
 | @tuple a o items nn _ _ ho hc hd hi=>
 have hT:s.TypeIs (.ref a) "tuple" := ⟨o,ho,hc⟩
 unfold ofAClassStatement
 refine aQ (wpAny_typeOf hT ?_)
 dsimp only
 refine aQ ?_
 refine bU ?_
 simp only[xZ,jk,if_false]
 refine aQ (qu ho hd ?_)
 refine aQ ?_
 show wpAny _ _ (forIn items _ _) _ _ s
 rw[<- JF]
 refine Ew _ (fun rest r s'=>r.1=none/\s'=s/\∃left bs,(∀d∈left,d∈ds)/\ReadsAll s.heap rest left bs) _ ?_ ?_ _ _ ⟨rfl,rfl,ds,_,fun d h=>h,hi⟩
 ·rintro v rest r s' ⟨hr,rfl,left,bs,hall,hl⟩
  cases hl with
  | @cons _ _ k ks' as1 YQ h1 hl'=>
  have hk:=hall k jl
  have:=k_ hk
  refine aQ (ih k hk m _ _ _ _ _ _ h1 (by omega) ?_)
  simp only[jk,if_false]
  exact bU ⟨rfl,rfl,ks',YQ,fun d h=>hall d (iM _ h),hl'⟩
 ·rintro⟨r1,r2⟩ s' ⟨hr,rfl,_⟩
  simp only at hr
  subst hr
  exact bU h
mutual
theorem Gf {prog:Program} {w:World}:∀d:PyData,pH d=true->K8 prog w d
 | .int i,_=>by
  intro n A E s v as Q r hu h
  cases r
  cases n <;> exact bU h
 | .tuple ds,h=>Vj (Ai ds (by simpa[pH] using h))
 | .none,h=>nomatch h
 | .bool _,h=>nomatch h
 | .str _,h=>nomatch h
 | .list _,h=>nomatch h
 | .dict _,h=>nomatch h
theorem Ai {prog:Program} {w:World}:∀ds:List PyData,fD ds=true->∀d∈ds,K8 prog w d
 | [],_,d,hd=>by cases hd
 | x::ds,h,d,hd=>by
  have h':pH x=true/\fD ds=true:=by simpa[fD] using h
  rcases b7.mp hd with e | e
  ·rw[e]; exact Gf x h'.1
  ·exact Ai ds h'.2 d e
end
section
variable {prog:Program} {w:World} {A:Around} {E:Value->Shared->Prop} {s:Shared}
theorem nest_cls {d:PyData} {b:Addr} (h:(bK prog w).is s.heap d b) {Q:Bool->Shared->Prop} (q:Q false s):wpAny (model prog w) A (ofAClassStatement 8 (.ref b)) Q E s:=by
 obtain⟨g,dp,as,r⟩:=h
 exact Gf d g 8 _ _ _ _ _ _ r dp q
theorem SQ {d:PyData} {b:Addr} (hb:(bK prog w).is s.heap d b) {ys:List Value} (hy:∀y∈ys,∃e c,y=Value.ref c/\(bK prog w).is s.heap e c) {Q:Bool->Shared->Prop} (q:Q false s) :
  wpAny (model prog w) A (searchCouldBeSeen (.ref b) ys) Q E s:=by
 unfold searchCouldBeSeen
 refine aQ ?_
 refine Ew _ (fun rest r s'=>r.1=none/\s'=s/\∀y∈rest,y∈ys) _ ?_ ?_ _ _ ⟨rfl,rfl,fun y h=>h⟩
 ·rintro v rest r s' ⟨hr,rfl,hall⟩
  obtain⟨e,c,rfl,hc⟩:=hy v (hall v jl)
  dsimp only
  by_cases z:(b==c)=true
  ·rw[aL (by rw[z]; rfl)]
   exact bU ⟨rfl,rfl,fun y h=>hall y (iM _ h)⟩
  ·rw[bB (by simp only[Bool.not_eq_true] at z; rw[z]; exact kE)]
   try refine aQ (bU ?_)
   refine aQ ((bK prog w).quiet hb ?_)
   simp only[xZ,jk,if_false]
   try refine aQ (bU ?_)
   refine aQ ((bK prog w).quiet hc ?_)
   simp only[xZ,jk,if_false]
   try refine aQ (bU ?_)
   refine aQ (nest_cls hb ?_)
   simp only[jk,if_false]
   try refine aQ (bU ?_)
   refine aQ (nest_cls hc ?_)
   simp only[jk,if_false]
   try refine aQ (bU ?_)
   exact bU ⟨rfl,rfl,fun y h=>hall y (iM _ h)⟩
 ·rintro⟨r1,r2⟩ s' ⟨hr,rfl,_⟩
  simp only at hr
  subst hr
  exact bU q
def YD (x:PyData×Addr):Int×Value:=(bG x.1,.ref x.2)
structure Oq (h:Heap) (a:Addr) (o:Obj) (es:Array (Int×Value)) (ep:Nat) (t:SetTable) (xs:List (PyData×Addr)):Prop where
 get:h.get? a=some o
 ex:o.ExactSet
 dt:o.data=.set es ep t
 es:es.toList=xs.map YD
 ti:N8 t (xs.map fun x=>bG x.1)
 nd:(xs.map (·.1)).Nodup
theorem Oq.size {h:Heap} {a:Addr} {o:Obj} {es:Array (Int×Value)} {ep:Nat} {t:SetTable} {xs:List (PyData×Addr)} (S:Oq h a o es ep t xs):es.size=xs.length:=by
 rw[<- l_,S.es,bR]
theorem Oq.fits {h:Heap} {a:Addr} {o:Obj} {es:Array (Int×Value)} {ep:Nat} {t:SetTable} {xs:List (PyData×Addr)} (S:Oq h a o es ep t xs):t.fits es.size=true:=by
 have:=S.ti.fits
 rw[bR] at this
 rw[S.size]; exact this
theorem Oq.at {h:Heap} {a:Addr} {o:Obj} {es:Array (Int×Value)} {ep:Nat} {t:SetTable} {xs:List (PyData×Addr)} (S:Oq h a o es ep t xs) (i:Nat):es[i]?=xs[i]?.map YD:=by
 rw[<- Ej,S.es,gM]
theorem uM (m:Nat) (h:Int) (n n':Nat):(gA m n' (gA m n (jmp m (bits h % (m+1)) (bits h)))).j=way m h (n+n'):=by unfold way; rw[lN]
theorem yM {a:Addr} {o:Obj} {es:Array (Int×Value)} {ep:Nat} {t:SetTable} {xs:List (PyData×Addr)} {d:PyData} {b:Addr} {adding:Bool} (hr:(bK prog w).room A) (S:Oq s.heap a o es ep t xs) (hk:∀x∈xs,(bK prog w).is s.heap x.1 x.2) (hb:(bK prog w).is s.heap d b) {Q:SetFound->Shared->Prop}
  (h1:d∈xs.map (·.1)->∀r:Option Nat,(adding=false->r.isSome=true)->Q (.there r) s)
  (h2:d∉xs.map (·.1)->∀j,j<=t.mask->(∀i:Nat,t.place[i]?≠some j)->Path t.mask (fun y=>∃i:Nat,t.place[i]?=some y) (bG d) j->Q (.free j false) s) :
  wpAny (model prog w) A (setSearch a (.ref b) (bG d) adding) Q E s:=by
 have T:=S.ti
 obtain⟨M,m1,m2,m3,m4⟩:=T.first (uV t (bG d))
 rw[yS] at m2 m3 m4
 have m2:∀n,n<M->∃i:Nat,t.place[i]?=some (way t.mask (bG d) n)/\t.slot (way t.mask (bG d) n)=.live i:=m2
 have m3:∀i:Nat,t.place[i]?≠some (way t.mask (bG d) M):=m3
 have m4:t.slot (way t.mask (bG d) M)=.empty:=m4
 have hM:M<50000:=by
  obtain⟨k,_,k2,k3⟩:=T.pw
  have:2 ^ k<=2 ^ 12:=LC (by decide) k2
  unfold turns at m1
  omega
 have key:∀(fuel n:Nat) (stand:Option Probe),n<=M->M-n<fuel->stand.getD (t.probeStart (bG d))=gA t.mask n (jmp t.mask (bits (bG d) % (t.mask+1)) (bits (bG d))) ->
   (∀(n' i:Nat),n'<n->t.place[i]?=some (way t.mask (bG d) n')->∀x:PyData×Addr,xs[i]?=some x->x.1≠d)->wpAny (model prog w) A (setSearchFrom a (.ref b) (bG d) adding fuel stand) Q E s:=by
  intro fuel
  induction fuel with
  | zero=>intro n stand _ h; omega
  | succ fuel ih=>
   intro n stand hn hf est Wj
   unfold setSearchFrom
   refine aQ (zO S.get S.dt S.fits ?_)
   dsimp only
   rw[T.odd]
   simp only[jk,if_false]
   rw[est]
   obtain⟨n1,q1,q2,q3⟩:=Fz (P:=fun c=>M<=n+c\/∃i:Nat,t.place[i]?=some (way t.mask (bG d) (n+c))/\∃x,xs[i]?=some x/\bG x.1=bG d) (M-n) (.inl (by omega))
   have wp:WP t.mask (gA t.mask n (jmp t.mask (bits (bG d) % (t.mask+1)) (bits (bG d)))):=by rw[<- yS]; exact(uV t (bG d)).gA n
   have live:∀n',n'<n1->∃i,t.slot (gA t.mask n' (gA t.mask n (jmp t.mask (bits (bG d) % (t.mask+1)) (bits (bG d))))).j=.live i/\(((es[i]?.map (·.1)).getD 0)==bG d)=false:=fun n' hn'=>by
    have:=q3 n' hn'
    have hlt:n+n'<M:=by
     rcases Nat.lt_or_ge (n+n') M with z | z
     ·exact z
     ·exact absurd (.inl z) this
    obtain⟨i,i1,i2⟩:=m2 _ hlt
    refine⟨i,by rw[uM]; exact i2,?_⟩
    have hil:i<xs.length:=by
     have:=(yg.mp i1).1
     rw[T.sz,bR] at this
     exact this
    rw[S.at,fM hil]
    show(bG xs[i].1==bG d)=false
    rw[beq_eq_false_iff_ne]
    intro z
    exact this (.inr ⟨i,i1,xs[i],fM hil,z⟩)
   by_cases c:M<=n+n1
   ·have eM:n+n1=M:=by omega
    have he:t.slot (gA t.mask n1 (gA t.mask n (jmp t.mask (bits (bG d) % (t.mask+1)) (bits (bG d))))).j=.empty:=by rw[uM,eM]; exact m4
    erw [Fd (hashAt:=fun i=>(es[i]?.map (·.1)).getD 0) wp (by omega) live he]
    dsimp only
    rw[uM,eM]
    refine bU (h2 ?_ _ ?_ m3 ⟨M,rfl,fun n' hn'=>let ⟨i,z,_⟩:=m2 n' hn'; ⟨i,z⟩⟩)
    ·intro hd
     obtain⟨x,hx,rfl⟩:=iK.mp hd
     obtain⟨i,hi⟩:=Qp.mp hx
     have hil:i<xs.length:=(iQ.mp hi).1
     have hip:i<t.place.size:=by rw[T.sz,bR]; exact hil
     have ep:=Ek hip
     obtain⟨ni,e1,e2⟩:=T.pa i (bG x.1) _ (by rw[gM,hi]; rfl) ep
     have hlt:ni<M:=by
      rcases Nat.lt_trichotomy ni M with z | z | z
      ·exact z
      ·exact absurd (by rw[<- z,e1]; exact ep) (m3 i)
      ·obtain⟨i',z'⟩:=e2 M z; exact absurd z' (m3 i')
     rw[<- e1] at ep
     by_cases d1:ni<n
     ·exact Wj ni i d1 ep x hi rfl
     ·refine q3 (ni-n) (by omega) (.inr ⟨i,by rw[show n+(ni-n)=ni by omega]; exact ep,x,hi,rfl⟩)
    ·have:=((uV t (bG d)).gA M).le
     exact this
   ·rcases q2 with z | ⟨i,i1,x,i2,i3⟩
    ·exact absurd z c
    ·have i4:=yU T.ri i1
     have hc:t.slot (gA t.mask n1 (gA t.mask n (jmp t.mask (bits (bG d) % (t.mask+1)) (bits (bG d))))).j=.live i:=by rw[uM]; exact i4
     have hh:(fun i=>(es[i]?.map (·.1)).getD 0) i=bG d:=by
      show(es[i]?.map (·.1)).getD 0=bG d
      rw[S.at,i2]; exact i3
     erw [Hx (hashAt:=fun i=>(es[i]?.map (·.1)).getD 0) (by omega) live hc hh]
     dsimp only
     have hx:=jm i2
     have ei:es[i]?=some (bG x.1,Value.ref x.2):=by rw[S.at,i2]; rfl
     have tail:wpAny (model prog w) A (do
       let some (_,y):=es[i]? | unsupported "internal:set-entry"
       let equal <- holding [y] (eqBool y (.ref b))
       let (es',_,t') <- setState a
       if adding&&equal then return .there none
       let some same:=t'.sameMemory t.moves t.mask | unsupported "set.changed-during-lookup:is-the-new-block-at-the-old-address"
       let still <- match (if same then t'.slot (gA t.mask n1 (gA t.mask n (jmp t.mask (bits (bG d) % (t.mask+1)) (bits (bG d))))).j else .empty) with
        | .live i'=>match es'[i']? with
         | some (_,y')=>do pure (if <- isSame y' y then some i' else none)
         | none=>pure none
        | _=>pure none
       match still with
       | none=>rule "set.search.anew"; setSearchFrom a (.ref b) (bG d) adding fuel none
       | some i'=>if equal then return .there (some i') else setSearchFrom a (.ref b) (bG d) adding fuel (some (gA t.mask (n1+1) (gA t.mask n (jmp t.mask (bits (bG d) % (t.mask+1)) (bits (bG d))))))) Q E s:=by
      rw[ei]
      dsimp only
      refine aQ (rQ ((bK prog w).eqBool hr (hk x hx) hb ?_))
      refine aQ (zO S.get S.dt S.fits ?_)
      dsimp only
      have sm:t.sameMemory t.moves t.mask=some true:=by unfold SetTable.sameMemory; simp
      rw[sm,hc]
      dsimp only
      simp only[if_true]
      rw[ei]
      dsimp only
      have isS:∀{Q':Bool->Shared->Prop},Q' true s->wpAny (model prog w) A (isSame (Value.ref x.2) (Value.ref x.2)) Q' E s:=fun h=>by
       unfold isSame
       simp only[beq_self_eq_true,if_true]
       exact bU h
      by_cases e:x.1=d
      ·rw[gC e]
       have hm:d∈xs.map (·.1):=e▸List.mem_map_of_mem hx
       cases adding with
       | true=>
        simp only[Bool.and_self,if_true]
        exact bU (h1 hm none (fun z=>nomatch z))
       | false=>
        simp only[Bool.false_and,jk,if_false]
        refine aQ (isS (aQ (bU ?_)))
        simp only[if_true]
        exact bU (h1 hm _ fun _=>rfl)
      ·rw[gY e]
       simp only[Bool.and_false,jk,if_false]
       refine aQ (isS (aQ (bU ?_)))
       simp only[if_true,jk,if_false]
       refine ih (n+n1+1) _ (by omega) (by omega) ?_ ?_
       ·show gA t.mask (n1+1) _=_
        rw[<- lN,Ef]
       ·intro n' i' hn' hi' x' hx'
        by_cases c1:n'<n
        ·exact Wj n' i' c1 hi' x' hx'
        ·by_cases c2:n'=n+n1
         ·subst c2
          have:=T.ri.inj hi' i1
          subst this
          rw[i2] at hx'; cases hx'
          exact e
         ·intro z
          exact q3 (n'-n) (by omega) (.inr ⟨i',by rw[show n+(n'-n)=n' by omega]; exact hi',x',hx',by rw[z]⟩)
     by_cases Yb:t.led=true
     ·rw[Yb]
      simp only[xZ,jk,if_false]
      exact tail
     ·simp only[Bool.not_eq_true] at Yb
      rw[Yb]
      simp only[Bool.not_false,if_true]
      refine aQ (SQ hb (fun y hy=>?_) ?_)
      ·obtain⟨e,he,rfl⟩:=iK.mp hy
       rw[Array.mem_toList_iff] at he
       have he:=(Array.mem_filter.mp he).1
       rw[<- Array.mem_toList_iff,S.es] at he
       obtain⟨x',hx',rfl⟩:=iK.mp he
       exact⟨x'.1,x'.2,rfl,hk x' hx'⟩
      ·simp only[jk,if_false]
       first | exact tail | exact aQ (bU tail)
 unfold setSearch
 exact key 100000 0 none (fQ _) (by omega) rfl (fun n' i h=>by omega)
end
end L2
namespace L2
open PySem PySem.Spec PyProof.Rows
open SetTable (Probe runEnd leap turns bits)
section
variable {prog:Program} {w:World} {A:Around} {E:Value->Shared->Prop} {s:Shared}
theorem S5 {a:Addr} {o:Obj} {es:Array (Int×Value)} {ep:Nat} {t:SetTable} {xs:List (PyData×Addr)} {d:PyData} {b:Addr} (hr:(bK prog w).room A) (S:Oq s.heap a o es ep t xs) (hk:∀x∈xs,(bK prog w).is s.heap x.1 x.2) (hb:(bK prog w).is s.heap d b) {Q:Option Nat->Shared->Prop}
  (h:∀r:Option Nat,(r.isSome=true↔d∈xs.map (·.1))->Q r s):wpAny (model prog w) A (setFind a (.ref b) (bG d)) Q E s:=by
 unfold setFind setFindIn
 refine aQ (zO S.get S.dt S.fits ?_)
 dsimp only
 have bs:byScan (.ref b) es=false:=rfl
 rw[bs]
 simp only[jk,if_false]
 refine aQ (yM hr S hk hb (fun hd r hr'=>?_) (fun hd j _ _ _=>?_))
 ·exact bU (h r ⟨fun _=>hd,fun _=>hr' rfl⟩)
 ·exact bU (h none ⟨fun z=>(nomatch z),fun z=>absurd z hd⟩)
def K7 (prog:Program) (w:World) (d:PyData):Prop:=∀(n:Nat) (A:Around) (E:Value->Shared->Prop) (s:Shared) (v:Value) (as:List Addr) (Q:Bool->Shared->Prop),Reads s.heap v d as->d.depth<=n->Q true s ->
 wpAny (model prog w) A (hashByValue n v) Q E s
theorem Va {ds:List PyData} (ih:∀d∈ds,K7 prog w d):K7 prog w (.tuple ds):=by
 intro n A E s v as Q r hn h
 have hn:PyData.depthAll ds+1<=n:=hn
 obtain⟨m,rfl⟩:∃m,n=m+1:=⟨n-1,by omega⟩
 cases r with
 | @tuple a o items nn _ _ ho hc hd hi=>
 have hT:s.TypeIs (.ref a) "tuple" := ⟨o,ho,hc⟩
 unfold hashByValue
 refine aQ (zL hT F.slot_tuple_hash.lookup ?_)
 show wpAny _ _ (seqItems? (.ref a) >>= _) _ _ s
 refine aQ (qu ho hd ?_)
 refine aQ ?_
 show wpAny _ _ (forIn items _ _) _ _ s
 rw[<- JF]
 refine Ew _ (fun rest r s'=>r.1=none/\s'=s/\∃left bs,(∀d∈left,d∈ds)/\ReadsAll s.heap rest left bs) _ ?_ ?_ _ _ ⟨rfl,rfl,ds,_,fun d h=>h,hi⟩
 ·rintro v rest r s' ⟨hr,rfl,left,bs,hall,hl⟩
  cases hl with
  | @cons _ _ k ks' as1 YQ h1 hl'=>
  have hk:=hall k jl
  have:=k_ hk
  refine aQ (ih k hk m _ _ _ _ _ _ h1 (by omega) ?_)
  simp only[xZ,jk,if_false]
  exact bU ⟨rfl,rfl,ks',YQ,fun d h=>hall d (iM _ h),hl'⟩
 ·rintro⟨r1,r2⟩ s' ⟨hr,rfl,_⟩
  simp only at hr
  subst hr
  exact bU h
mutual
theorem FW:∀d:PyData,pH d=true->K7 prog w d
 | .int i,_=>by
  intro n A E s v as Q r hu h
  cases r
  cases n <;> exact bU h
 | .tuple ds,h=>Va (Ac ds (by simpa[pH] using h))
 | .none,h=>nomatch h
 | .bool _,h=>nomatch h
 | .str _,h=>nomatch h
 | .list _,h=>nomatch h
 | .dict _,h=>nomatch h
theorem Ac:∀ds:List PyData,fD ds=true->∀d∈ds,K7 prog w d
 | [],_,d,hd=>by cases hd
 | x::ds,h,d,hd=>by
  have h':pH x=true/\fD ds=true:=by simpa[fD] using h
  rcases b7.mp hd with e | e
  ·rw[e]; exact FW x h'.1
  ·exact Ac ds h'.2 d e
end
theorem ins_map {α β:Type} (f:α->β) (xs:List α) (p:Nat) (x:α):(xs.take p++x::xs.drop p).map f=(xs.map f).take p++f x::(xs.map f).drop p:=by
 rw[jC,x_,vO,List.map_drop]
theorem Nh {α:Type} {xs:List α} {p:Nat} {x:α} (h:xs.Nodup) (hx:x∉xs):(xs.take p++x::xs.drop p).Nodup:=by
 have e:(xs.take p++x::xs.drop p).Perm (x::xs):=by
  refine List.perm_middle.trans ?_
  rw[List.take_append_drop]
 exact e.nodup_iff.mpr (Es.mpr ⟨hx,h⟩)
theorem QM {xs:List (PyData×Addr)} {order:List Nat} (nd:order.Nodup) (hl:order.length=xs.length) (lt:∀l∈order,l<xs.length) (all:∀l,l<xs.length->l∈order) :
  ∃ys:List (PyData×Addr),(∀f:(PyData×Addr)->Int×Value,order.filterMap ((xs.map f)[·]?)=ys.map f)/\(∀f:(PyData×Addr)->Int,order.filterMap ((xs.map f)[·]?)=ys.map f)/\ys.length=xs.length/\ys.Perm xs:=by
 have sm:∀l∈order,(xs[l]?).isSome=true:=fun l h=>by rw[fM (lt l h)]; rfl
 have e:∀{γ:Type} (f:(PyData×Addr)->γ),order.filterMap ((xs.map f)[·]?)=(order.filterMap (xs[·]?)).map f:=fun f=>by
  rw[List.map_filterMap]
  congr 1
  funext l
  rw[gM]
 have hp:order.Perm (List.range xs.length):=by
  refine(List.perm_ext_iff_of_nodup nd List.nodup_range).mpr fun l=>?_
  rw[rR]
  exact⟨lt l,all l⟩
 refine⟨order.filterMap (xs[·]?),e,e,by rw[Ig sm,hl],?_⟩
 have:=hp.filterMap (xs[·]?)
 rw[List.filterMap_getElem?_range_length] at this
 exact this
theorem OD {a:Addr} {o:Obj} {es:Array (Int×Value)} {ep:Nat} {t:SetTable} {xs:List (PyData×Addr)} (ho:s.heap.get? a=some o) (hx:o.ExactSet) (hd:o.data=.set es ep t) (hes:es.toList=xs.map YD) (hf:t.fits es.size=true) (nd:(xs.map (·.1)).Nodup) (h1:1<=xs.length) (h2:xs.length<=1000) {Q:Unit->Shared->Prop}
  (q:∀h' o' es' ep' t' ys,Heap.SameBut a s.heap h'->Oq h' a o' es' ep' t' ys->ys.Perm xs->Q () { s with heap:=h' }):wpAny (model prog w) A (setRelay a (SetTable.grown xs.length)) Q E s:=by
 have sz:es.size=xs.length:=by rw[<- l_,hes,bR]
 have hsz:(es.map (·.1)).size=xs.length:=by rw[Array.size_map,sz]
 have hl:(es.map (·.1)).toList=xs.map fun x=>bG x.1:=by rw[Array.toList_map,hes,List.map_map]; rfl
 obtain⟨t',order,g1,g2,g3,g4,g6,g5,g7⟩:=Lw (t:=t) (es.map (·.1)) (by omega) (by omega)
 rw[hsz] at g1 g2 g3 g4 g7
 obtain⟨ys,y1,y2,y3,y4⟩:=QM g6 g2 g3 g4
 unfold setRelay
 refine aQ (zO ho hd hf ?_)
 dsimp only
 have zl:(4096:Nat)<=sizeLine:=by rw[sizeLine_eq]; decide
 rw[bB (by omega)]
 have e1:(order.filterMap (es[·]?)).toList=ys.map YD:=by
  rw[Array.toList_filterMap,<- y1 YD]
  congr 1
  funext l
  rw[<- hes,Ej]
 have tail:wpAny (model prog w) A (storeSet a (order.filterMap (es[·]?)) t') Q E s:=by
  have hz:(order.filterMap (es[·]?)).size<=sizeLine:=by
   rw[<- l_,e1,bR,y3]; omega
  refine wpAny_storeSet_of ho hd ?_ hz
  have hg:(s.heap.update a (Obj.putSet (order.filterMap (es[·]?)) t')).get? a=some { o with data:=.set (order.filterMap (es[·]?)) (ep+1) t' }:=by
   have:=yf (Obj.putSet (order.filterMap (es[·]?)) t') ho (by rw[putSet_of _ t' hd]; rfl)
   rw[putSet_of _ t' hd] at this; exact this
  refine q _ _ _ _ t' ys (JG s.heap a _) ⟨hg,hx,rfl,e1,?_,?_⟩ y4
  ·rw[hl,y2 fun x=>bG x.1] at g5
   exact g5
  ·exact(y4.map _).nodup_iff.mpr nd
 have es2:(order.filterMap (es[·]?)).size=es.size:=by rw[<- l_,e1,bR,y3,sz]
 rw[g1]
 refine aQ ?_
 show wpAny _ _ (if((order.filterMap (es[·]?)).size != es.size)=true then(unsupported "internal:set-table-lost-an-element" >>= fun _=>pure (order.filterMap (es[·]?),t')) else pure (order.filterMap (es[·]?),t')) _ _ _
 rw[bB (by rw[es2]; simp)]
 exact bU tail
theorem YX.fits {t:SetTable} {hs:List Int} (T:YX t hs):t.fits hs.length=true:=by
 have h1:=T.sz
 have h2:=T.fl
 simp only[SetTable.fits,SetTable.fill,T.dm,h1,Bx,beq_iff_eq,decide_eq_true_eq]
 refine⟨trivial,?_⟩
 show hs.length+0<=t.mask
 omega
theorem WN {a:Addr} {o:Obj} {es:Array (Int×Value)} {ep:Nat} {t:SetTable} {xs:List (PyData×Addr)} {d:PyData} {b:Addr} (hr:(bK prog w).room A) (S:Oq s.heap a o es ep t xs) (hk:∀x∈xs,(bK prog w).is s.heap x.1 x.2) (hb:(bK prog w).is s.heap d b) (hl:xs.length<1000) {Q:Bool->Shared->Prop}
  (q:∀r h' o' es' ep' t' ys,Heap.SameBut a s.heap h'->Oq h' a o' es' ep' t' ys->(d∈xs.map (·.1)/\ys=xs\/d∉xs.map (·.1)/\ys.Perm ((d,b)::xs))->Q r { s with heap:=h' }) :
  wpAny (model prog w) A (setAddHashed a (.ref b) (bG d)) Q E s:=by
 unfold setAddHashed setAddHashedIn
 refine rQ (aQ (zO S.get S.dt S.fits ?_))
 dsimp only
 have bs:byScan (.ref b) es=false:=rfl
 rw[bs]
 simp only[jk,if_false]
 refine aQ (yM hr S hk hb (fun hd r _=>?_) (fun hd j hj hn hp=>?_))
 ·have e:s={ s with heap:=s.heap }:=by cases s; rfl
  have:=q false s.heap o es ep t xs (Heap.SameBut.refl a s.heap) S (.inl ⟨hd,rfl⟩)
  exact bU (by rw[e]; exact this)
 ·dsimp only
  refine aQ (zO S.get S.dt S.fits ?_)
  dsimp only
  obtain⟨J,p1,p2,p3⟩:=S.ti.put hj hn hp
  generalize (t.put j).1=t1 at J p2 p3 ⊢
  generalize (t.put j).2=pp at J p1 ⊢
  rw[bR] at p1
  have tail:wpAny (model prog w) A (storeSet a (SetTable.insertAt es pp (bG d,.ref b)) t1 >>= fun _=>if(!false&&t1.tooFull)=true then(setRelay a (SetTable.grown (es.size+1)) >>= fun _=>pure true) else pure true) Q E s:=by
   have eL:(SetTable.insertAt es pp (bG d,Value.ref b)).toList=(xs.take pp++(d,b)::xs.drop pp).map YD:=by
    rw[SetTable.toList_insertAt,S.es,ins_map]; rfl
   have hn':(xs.take pp++(d,b)::xs.drop pp).length=xs.length+1:=by
    simp only[fP,jj,jD,vJ]; omega
   have hz:(SetTable.insertAt es pp (bG d,Value.ref b)).size<=sizeLine:=by
    have zl:(4096:Nat)<=sizeLine:=by rw[sizeLine_eq]; decide
    rw[<- l_,eL,bR,hn']; omega
   refine aQ (wpAny_storeSet_of S.get S.dt ?_ hz)
   have hg:(s.heap.update a (Obj.putSet (SetTable.insertAt es pp (bG d,Value.ref b)) t1)).get? a=some { o with data:=.set (SetTable.insertAt es pp (bG d,Value.ref b)) (ep+1) t1 }:=by
    have:=yf (Obj.putSet (SetTable.insertAt es pp (bG d,Value.ref b)) t1) S.get (by rw[putSet_of _ t1 S.dt]; rfl)
    rw[putSet_of _ t1 S.dt] at this; exact this
   have sb:=JG s.heap a (Obj.putSet (SetTable.insertAt es pp (bG d,Value.ref b)) t1)
   generalize s.heap.update a (Obj.putSet (SetTable.insertAt es pp (bG d,Value.ref b)) t1)=h1 at hg sb ⊢
   have J':YX t1 ((xs.take pp++(d,b)::xs.drop pp).map fun x=>bG x.1):=by rw[ins_map]; exact J
   have nd':((xs.take pp++(d,b)::xs.drop pp).map (·.1)).Nodup:=by rw[ins_map]; exact Nh S.nd hd
   have pm:(xs.take pp++(d,b)::xs.drop pp).Perm ((d,b)::xs):=by
    refine List.perm_middle.trans ?_
    rw[List.take_append_drop]
   cases ef:t1.tooFull with
   | false=>
    simp only[Bool.not_false,Bool.and_false,jk,if_false]
    exact bU (q true h1 _ _ _ _ _ sb ⟨hg,S.ex,rfl,eL,J'.ti ef,nd'⟩ (.inr ⟨hd,pm⟩))
   | true=>
    simp only[Bool.not_false,Bool.and_self,if_true]
    have esz:es.size+1=(xs.take pp++(d,b)::xs.drop pp).length:=by rw[hn',S.size]
    rw[esz]
    refine aQ (OD (s:={ s with heap:=h1 }) hg S.ex rfl eL ?_ nd' (by omega) (by omega) fun h' o' es' ep' t' ys sb' S' py=>?_)
    ·have:=J'.fits
     rw[bR] at this
     rw[<- l_,eL,bR]
     exact this
    ·exact bU (q true h' _ _ _ _ ys (sb.trans sb') S' (.inr ⟨hd,py.trans pm⟩))
  cases epl:t1.plain with
  | false=>
   simp only[jk,if_false]
   refine aQ (bU ?_)
   simp only[if_true]
   exact tail
  | true=>
   simp only[if_true]
   obtain⟨g,dp,as,r⟩:=hb
   refine aQ (FW d g 8 _ _ _ _ _ _ r dp ?_)
   simp only[if_true]
   exact tail
end
def SkP (a:Addr) (xs:List (PyData×Addr)) (h:Heap):Prop:=∃o es ep t,Oq h a o es ep t xs
def Wr (a:Addr) (xs:List (PyData×Addr)):HO:=.ext (SkP a xs)
def gJ (H:Hp) (a:Addr) (ks:List PyData):Prop:=∃xs,H a=some (Wr a xs)/\(∀d,d∈ks↔d∈xs.map (·.1))/\(∀x∈xs,xP x.1/\At H x.1 (.ref x.2))/\xs.length<=ks.length
theorem gJ.keep {H H':Hp} {a:Addr} {ks:List PyData} (n:gJ H a ks) (ha:H' a=H a) (k:∀b xs,H b=some (.tup xs)->H' b=some (.tup xs)):gJ H' a ks:=by
 obtain⟨xs,e,m,r,l⟩:=n
 exact⟨xs,ha.trans e,m,fun x hx=>⟨(r x hx).1,At.tupS k _ _ (pG _ (r x hx).1.k).2.2 (r x hx).2⟩,l⟩
theorem gJ.same {H H':Hp} {a:Addr} {ks:List PyData} (n:gJ H a ks) (s:aF H H'):gJ H' a ks:=by
 obtain⟨xs,e,r⟩:=id n
 exact n.keep ((s _ _ e).trans e.symm) fun b xs h=>s _ _ h
theorem gJ.ext {H:Hp} {a:Addr} {ks:List PyData} (n:gJ H a ks):∃φ,H a=some (.ext φ):=by
 obtain⟨xs,e,_⟩:=n
 exact⟨_,e⟩
theorem gJ.abH {H:Hp} {a p:Addr} {ks:List PyData} {ys:List V} {o:HO} (n:gJ H a ks) (hp:H p=some (.lst ys)):gJ (upd H p o) a ks:=by
 obtain⟨φ,e⟩:=n.ext
 have na:a≠p:=fun z=>by rw[z,hp] at e; cases e
 refine n.keep (aP na) fun b xs h=>?_
 have nb:b≠p:=fun z=>by rw[z,hp] at h; cases h
 rw[aP nb]; exact h
section
variable {X:Cx} {pins:List (Addr×Obj)} {σ:St} {H:Hp} {s:Shared} {a:Addr} {ks:List PyData}
theorem VR {P:Program} {w:World} {H:Hp} {h:Heap} {xs:List (PyData×Addr)} (n:SkP a xs h):cz P w H h a (Wr a xs):=by
 obtain⟨o,es,ep,t,S⟩:=n
 exact⟨⟨o,es,ep,t,S⟩,⟨o,S.get⟩,fun h1' h2' ⟨o',es',ep',t',S'⟩ k=>⟨o',es',ep',t',k _ S'.get,S'.ex,S'.dt,S'.es,S'.ti,S'.nd⟩⟩
theorem Qa (I:Inv X pins σ H s) (n:gJ H a ks):∃xs,H a=some (Wr a xs)/\(∀d,d∈ks↔d∈xs.map (·.1))/\(∀x∈xs,xP x.1/\At H x.1 (.ref x.2))/\xs.length<=ks.length/\SkP a xs s.heap/\∀x∈xs,(bK X.prog X.w).is s.heap x.1 x.2:=by
 obtain⟨xs,e,m,r,l⟩:=n
 obtain⟨p,_,_⟩:=(show cz X.prog X.w H s.heap a (Wr a xs) from I.hok a _ e)
 exact⟨xs,e,m,r,l,p,fun x hx=>Ft I.hok (r x hx).1 (r x hx).2⟩
def gk (H:Hp) (a:Addr) (ks:List PyData) (d:PyData) (H':Hp):Prop:=(∃φ,H'=upd H a (.ext φ))/\gJ H' a (ks++[d])
theorem gk.tup {H H':Hp} {a:Addr} {ks:List PyData} {d:PyData} (n:gJ H a ks) (p:gk H a ks d H'):∀b xs,H b=some (.tup xs)->H' b=some (.tup xs):=fun b xs h=>by
 obtain⟨⟨φ,rfl⟩,_⟩:=p
 obtain⟨ψ,e⟩:=n.ext
 have nb:b≠a:=fun z=>by rw[z,e] at h; cases h
 rw[aP nb]; exact h
theorem gk.lst {H H':Hp} {a:Addr} {ks:List PyData} {d:PyData} (n:gJ H a ks) (p:gk H a ks d H'):∀b xs,H b=some (.lst xs)->H' b=some (.lst xs):=fun b xs h=>by
 obtain⟨⟨φ,rfl⟩,_⟩:=p
 obtain⟨ψ,e⟩:=n.ext
 have nb:b≠a:=fun z=>by rw[z,e] at h; cases h
 rw[aP nb]; exact h
theorem gk.at {H H':Hp} {a:Addr} {ks:List PyData} {d e:PyData} {u:V} (n:gJ H a ks) (p:gk H a ks d H') (h:uD e=true) (x:At H e u):At H' e u:=At.tupS (gk.tup n p) _ _ h x
theorem gk.same {H H':Hp} {a:Addr} {ks:List PyData} {d:PyData} {H0:Hp} (p:gk H a ks d H') (s:aF H0 H) (f:H0 a=none):aF H0 H':=by
 obtain⟨⟨φ,rfl⟩,_⟩:=p
 exact s.d7 f
theorem rG (I:Inv X pins σ H s) (n:gJ H a ks):s.TypeIs (.ref a) "set" /\ ∀b,Value.ref a=.ref b->∃ob,s.heap.get? b=some ob/\ob.dict=none:=by
 obtain⟨xs,e,m,r,l,⟨o,es,ep,t,S⟩,_⟩:=Qa I n
 exact⟨⟨o,S.get,S.ex.1⟩,fun b z=>by cases z; exact⟨o,S.get,S.ex.2.1⟩⟩
theorem Tn {A:Around} {E:Value->Shared->Prop} {b:Addr} {d:PyData} {Q:Option Nat->Shared->Prop} (hu:(bK X.prog X.w).room A) (I:Inv X pins σ H s) (n:gJ H a ks) (ky:oX H d (.ref b)) (h:∀r:Option Nat,r.isSome=decide (d∈ks)->Q r s) :
  wpAny (model X.prog X.w) A (setFind a (.ref b) (bG d)) Q E s:=by
 obtain⟨xs,e,m,r,l,⟨o,es,ep,t,S⟩,hk⟩:=Qa I n
 refine S5 hu S hk (Ft I.hok ky.1 ky.2) fun r hr=>h r ?_
 rw[<- m d] at hr
 by_cases z:d∈ks
 ·rw[gC z]; exact hr.mpr z
 ·rw[gY z,<- Bool.not_eq_true]; exact fun q=>z (hr.mp q)
end
end L2
namespace L2
open PySem PySem.Spec PyProof.Rows
section
variable {X:Cx} {pins:List (Addr×Obj)} {σ:St} {H:Hp} {s:Shared} {a:Addr} {ks:List PyData}
theorem Qd {A:Around} {E:Value->Shared->Prop} {Q:Value->Shared->Prop} {d:PyData} {y:V} {u:Value} (hu:A.units+64<cLine) (I:Inv X pins σ H s) (n:gJ H a ks) (ky:oX H d y) (ry:RelV y u) (h:∀s',Inv X pins σ H s'->Q (.bool (!decide (d∈ks))) s') :
  wpAny (model X.prog X.w) A (compareOp .NotIn u (.ref a)) Q E s:=by
 obtain⟨b,rfl,rfl⟩:=ky.ref ry
 have hT:=(rG I n).1
 show wpAny _ _ (do return .bool (!(<- contains (.ref a) (.ref b)))) Q E s
 refine aQ ?_
 unfold contains
 try with_reducible refine rQ ?_
 refine aQ (zL hT F.slot_set_contains.lookup ?_)
 show wpAny _ _ (if(some (Value.builtin "set.__contains__")==some Value.none)=true then _ else _) _ E s
 rw[bB (by rw[beq_builtin_none]; exact kE)]
 refine aQ (wpAny_callSpecialUnlessNone?_slot (name:=Str.ofString "__contains__") hT F.slot_set_contains
  (vK F.slot_set_contains hT entry_set_contains ?_ (F.args_set_contains_2 _ _)))
 unfold Builtin.«frozenset.__contains__» Builtin.Frozenset.oneOther
 simp only[List.isEmpty_nil,bind_assoc]
 unfold Builtin.Frozenset.addrOf Builtin.Frozenset.withSetAsKey setContains
 refine aQ (bU ?_)
 try dsimp only
 refine aQ (bU ?_)
 try dsimp only
 refine aQ (zx ?_)
 refine rQ ?_
 refine aQ ((bK X.prog X.w).pyHash (uF hu) (Ft I.hok ky.1 ky.2) ?_)
 have I':Inv X pins σ H { s with toks:=s.toks+(bK X.prog X.w).draws d }:=I.tok _
 refine aQ (Tn (s:={ s with toks:=s.toks+(bK X.prog X.w).draws d }) (uF hu) I' n ky fun r hr=>?_)
 refine bU ?_
 show wpAny _ _ (ret (Value.bool r.isSome)) _ _ _
 rw[hr]
 exact bU ⟨_,rfl,Eh (bU (h _ I'))⟩
theorem P_ {h':Heap} {t':Nat} {xs ys:List (PyData×Addr)} {ks':List PyData} (I:Inv X pins σ H s) (e:H a=some (Wr a xs)) (hs:Heap.SameBut a s.heap h') (n:SkP a ys h') (m:∀d,d∈ks'↔d∈ys.map (·.1)) (r:∀x∈ys,xP x.1/\At H x.1 (.ref x.2)) (l:ys.length<=ks'.length) :
  Inv X pins σ (upd H a (Wr a ys)) { s with heap:=h',toks:=t' }/\gJ (upd H a (Wr a ys)) a ks':=by
 obtain⟨o,es,ep,t,S⟩:=id n
 refine⟨I.write (x:=a) (e:=a) (by rw[e]; exact True.intro) (.inl rfl) (fun b q hb z=>(hs.2 b hb).trans z) ⟨o,S.get⟩ (VR n),ys,az,m,fun x hx=>⟨(r x hx).1,At.tupS (fun b xs hb=>?_) _ _ (pG _ (r x hx).1.k).2.2 (r x hx).2⟩,l⟩
 have nb:b≠a:=fun z=>by rw[z,e] at hb; cases hb
 rw[aP nb]; exact hb
theorem W9 {A:Around} {E:Value->Shared->Prop} {Q:Value->Shared->Prop} {d:PyData} {y:V} {u:Value} (hu:A.units+64<cLine) (I:Inv X pins σ H s) (n:gJ H a ks) (hl:ks.length<1000) (ky:oX H d y) (ry:RelV y u) (h:∀H' s',gk H a ks d H'->Inv X pins σ H' s'->Q .none s') :
  wpAny (model X.prog X.w) A (call (.builtin "set.add") [.ref a,u]) Q E s:=by
 obtain⟨b,rfl,rfl⟩:=ky.ref ry
 have hT:=(rG I n).1
 refine vK F.slot_set_add hT F.entry_set_add ?_ (F.args_set_add_2 _ _)
 unfold Builtin.«set.add» Builtin.Frozenset.oneOther
 simp only[List.isEmpty_nil,bind_assoc]
 unfold Builtin.Frozenset.addrOf setAdd
 refine aQ (bU ?_)
 try dsimp only
 refine aQ (bU ?_)
 try dsimp only
 refine aQ ?_
 refine rQ ?_
 refine aQ ((bK X.prog X.w).pyHash (uF hu) (Ft I.hok ky.1 ky.2) ?_)
 have I':Inv X pins σ H { s with toks:=s.toks+(bK X.prog X.w).draws d }:=I.tok _
 obtain⟨xs,e,m,r,l,⟨o,es,ep,t,S⟩,hk⟩:=Qa I' n
 refine WN (s:={ s with toks:=s.toks+(bK X.prog X.w).draws d }) (uF hu) S hk (Ft I'.hok ky.1 ky.2) (by omega) fun rr h' o' es' ep' t' ys sb S' hy=>?_
 have fin:(∀z,z∈ks++[d]↔z∈ys.map (·.1))/\(∀x∈ys,xP x.1/\At H x.1 (.ref x.2))/\ys.length<=(ks++[d]).length:=by
  rw[fP]
  rcases hy with⟨hd,rfl⟩ | ⟨hd,pm⟩
  ·refine⟨fun z=>?_,r,by omega⟩
   rw[<- m z,oH,fU]
   exact⟨fun q=>q.elim id fun q=>by rw[q]; exact(m d).mpr hd,.inl⟩
  ·refine⟨fun z=>?_,fun x hx=>?_,?_⟩
   ·rw[(pm.map (·.1)).mem_iff,x_,b7,oH,fU,m z]
    exact⟨fun q=>q.elim .inr .inl,fun q=>q.elim .inr .inl⟩
   ·rcases b7.mp (pm.mem_iff.mp hx) with rfl | hx
    ·exact⟨ky.1,ky.2⟩
    ·exact r x hx
   ·rw[pm.length_eq,jD]; show xs.length+1<=ks.length+1; omega
 obtain⟨I2,n2⟩:=P_ (t':=s.toks+(bK X.prog X.w).draws d) I' e sb ⟨o',es',ep',t',S'⟩ fin.1 fin.2.1 fin.2.2
 show wpAny _ _ (ret Value.none) _ _ _
 exact bU ⟨_,rfl,h _ _ ⟨⟨_,rfl⟩,n2⟩ I2⟩
end
section
variable {X:Cx}
theorem Mp (hu:X.A.units+64<cLine):rm X (compareOp .NotIn) (fun x y H Q=>∃a ks d,y=.ref a/\gJ H a ks/\oX H d x/\Q (.bl (!decide (d∈ks))) H):=by
 refine .mk ?_
 intro pins s σ H x y v u Q I rx ry h
 obtain⟨a,ks,d,rfl,n,k,q⟩:=h
 cases ry
 exact Qd hu I n k rx fun s' I'=>⟨.bl _,H,I',rfl,q⟩
theorem O6 (led:Bool):N8 (.fresh 0 0 led) []:=by
 refine⟨rfl,fun a b x y h=>?_,rfl,fun i j h=>?_,⟨3,by decide,by decide,rfl⟩,by show 5*0<3*7; decide,fun i h j z=>by simp at z⟩
 ·have h:(#[]:Array Nat)[a]?=some x:=h
  simp at h
 ·have h:(#[]:Array Nat)[i]?=some j:=h
  simp at h
def V4:List V->Hp->VK->Prop:=fun vs H Q=>vs=[]/\∀p H',H p=none->aF H H'->gJ H' p []->(∃φ,H'=upd H p (.ext φ))->Q (.ref p) H'
theorem Ny:cT X (.type "set") V4:=by
 refine .mk ?_
 intro pins s σ H vs us Q I r h
 obtain⟨rfl,q⟩:=h
 cases r
 refine call_set_0 fun led=>?_
 have hf:=I.hok.fresh (bF s.heap.objs.size)
 have n:SkP s.heap.objs.size [] (s.heap.push { cls:=.type "set",dict:=none,data:=.set #[] 0 (.fresh 0 0 led) }):=⟨_,#[],0,_,dM _ rfl,⟨rfl,rfl,rfl⟩,rfl,rfl,O6 led,List.nodup_nil⟩
 exact⟨.ref s.heap.objs.size,_,I.laid (a:=s.heap.objs.size) (o:=Wr s.heap.objs.size []) (t':=s.toks) (fun _ _ q=>eO _ q) (bF _) (VR n),rfl,q _ _ hf (aK hf _) ⟨[],az,fun d=>by simp,fun x hx=>(nomatch hx),bF _⟩ ⟨_,rfl⟩⟩
def VD (to:TE) (t:TA):TE:=fun σ H Q=>to σ H fun x H1=>(∃a ks,x=.ref a/\gJ H1 a ks)/\t σ H1 fun vs H2=>∃a ks y d,x=.ref a/\vs=[y]/\gJ H2 a ks/\ks.length<1000/\oX H2 d y/\∀H3,gk H2 a ks d H3->Q .non H3
theorem JS (hu:X.A.units+64<cLine) {o e:Expr} {to:TE} {t:TA} {apos cpos:Pos} (ho:PE X o to) (ha:PA X [e] t)
  (hbase:attributeBase o "add" X.env (eval o X.env)=eval o X.env:=by rfl)
  (hfew:((backTo cpos (starEach [e] X.env)).all (fun x=>!x.1)&&(backToKw cpos (keywordEach [] X.env)).all (fun x=>x.1.isSome)
   && decide (([e]:List Expr).length+([]:List Keyword).length+(if([]:List Keyword).isEmpty then 0 else 1)<30))=true:=by rfl)
  (hline:(apos.endLine==cpos.line)=true:=by rfl) (hs:starEach [e] X.env=(false,eval e X.env)::starEach [] X.env:=by rfl) (hplain:(backTo cpos (starEach [] X.env)).any (·.1)=false:=by rfl) :
  PE X (.Call (.Attribute o "add" apos) [e] [] cpos) (VD to t):=by
 refine .mk ?_
 intro pins s σ H Q I h
 refine wpAny_Call_method_late hbase hfew hline rfl (cQ (ho pins s σ H _ I h) fun v s1 qx=>?_)
 obtain⟨x,H1,I1,r1,⟨a,ks,ex,n⟩,q1⟩:=qx
 subst ex
 cases r1
 obtain⟨h1,h2⟩:=rG I1 n
 refine⟨"set","set.add",F.plainAttrs_set,F.slot_set_add,F.type_set_add,h1,h2,?_⟩
 have hA:=ha cpos pins s1 σ H1 _ I1 q1
 rw[hs] at hA ⊢
 refine Calls.callWith_builtin (by show(false || (backTo cpos (starEach [] X.env)).any (·.1))=false; rw[hplain] <;> rfl) (Calls.evalArgs_plain ?_)
 refine cQ hA fun us s2 qx=>?_
 obtain⟨vs,H2,I2,r2,a',ks',y,d,e1,e2,n2,hl,ky,q2⟩:=qx
 cases e1
 subst e2
 obtain⟨u,rfl,ru⟩:=r2.one
 exact W9 hu I2 n2 hl ky ru fun H' s' p I'=>⟨.non,H',I',rfl,q2 H' p⟩
end
section
variable {P:Program} {w:World} {K:PySem.W.Frag} {mg:Str->Option Value} {base:Heap} {N:List Str} {qual:Str} {scope:Scope} {f:Addr} {cd:Value} {A:Around} {outer:List Env} {s0:Shared} {H0:Hp} {E:XK}
theorem Mm {pins:List (Addr×Obj)} {σ:St} {H1:Hp} {s1 s':Shared} {e:Value} {E':XK} (I:Inv (gq (my P w) P w K mg base N qual scope f cd A outer s0 H0 E) pins σ H1 s1) (c:my P w (envOfC qual scope s0.heap.objs.size f cd::outer) H1 s1 E' e s')
  (hE:∀cls H2,E' cls none H2->∀H3,(aF H1 H2->aF H1 H3)->E cls none H3):(gq (my P w) P w K mg base N qual scope f cd A outer s0 H0 E).xe e s':=by
 obtain⟨a,T0,cls,H2,rfl,os,bare,un,hok,ha,hT0,n0,⟨na',XQ⟩,q⟩:=c
 have na:H1 a=none:=I.hok.none na'
 have nT0:H1 T0=none:=I.hok.none XQ
 have q:=hE cls H2 q
 have I2:Inv (gq (my P w) P w K mg base N qual scope f cd A outer s0 H0 E) pins σ H2 s':=I.call' (ch:=[]) os un hok bare fun b z=>nomatch z
 have ff:s'.heap.FunFrames base (envOfC qual scope s0.heap.objs.size f cd::outer):=I2.stack
 have fr:(A.deeper (envOfC qual scope s0.heap.objs.size f cd)).frames=some (envOfC qual scope s0.heap.objs.size f cd::outer):=I2.ok.frames
 show wpAny _ _ (leaving (envOfC qual scope s0.heap.objs.size f cd) (.ref a)) _ _ _
 unfold leaving
 refine aQ ?_
 refine noteE2 fr ff rfl (xT.at (hok a _ ha)) (yH.at (hok T0 _ hT0)) n0 fun h3 T nt=>?_
 have fT:s'.heap.get? T=none:=by
  cases z:s'.heap.get? T with
  | none=>rfl
  | some o=>exact absurd (b_ z) (Nat.not_lt.mpr nt.fresh)
 have nT:H2 T=none:=hok.none fT
 have Ta:T≠a:=fun z=>by rw[z,ha] at nT; cases nT
 have TT:T≠T0:=fun z=>by rw[z,hT0] at nT; cases nT
 have I3:Inv (gq (my P w) P w K mg base N qual scope f cd A outer s0 H0 E) pins σ (upd (upd (upd H2 T0 (Sx T0)) a (xT a cls T)) T (yH T)) { s' with heap:=h3 }:=by
  refine I2.ext (fun b=>b=a\/b=T0\/b=T) (fun b o z y x=>nt.keep b o (fun w=>z (.inl w)) (fun w=>z (.inr (.inl w))) y x) (fun b o z x=>nt.slot b o (fun w=>z (.inl w)) (fun w=>z (.inr (.inl w))) x) (fun b o z x=>?_) (fun b z=>?_) (fun b z=>?_) (fun b u z y=>?_)
  ·rcases z with rfl | rfl | rfl
   ·obtain⟨oe,vs,e1,_⟩:=nt.ex; exact⟨_,e1⟩
   ·exact nt.old
   ·rw[fT] at x; cases x
  ·rcases z with rfl | rfl | rfl
   ·exact .inr ⟨_,ha⟩
   ·exact .inr ⟨_,hT0⟩
   ·exact .inl ⟨nT,fT⟩
  ·rw[aP fun w=>z (.inr (.inr w)),aP fun w=>z (.inl w),aP fun w=>z (.inr (.inl w))]
  ·rcases z with rfl | rfl | rfl
   ·rw[aP (Ne.symm Ta),az] at y; cases y; exact QT nt.ex
   ·rw[aP (Ne.symm TT),aP n0,az] at y; cases y; exact Wb nt.old
   ·rw[az] at y; cases y; exact J0 nt.tb
 have Wi:upd (upd (upd H2 T0 (Sx T0)) a (xT a cls T)) T (yH T) a=some (xT a cls T):=by rw[aP (Ne.symm Ta),az]
 have hT3:upd (upd (upd H2 T0 (Sx T0)) a (xT a cls T)) T (yH T) T=some (yH T):=az
 have sm:aF H1 H2->aF H1 (upd (upd (upd H2 T0 (Sx T0)) a (xT a cls T)) T (yH T)):=fun y b o z=>by
  have g:=y b o z
  rw[aP (fun w=>by rw[w,nT] at g; cases g),aP (fun w=>by rw[w,na] at z; cases z),aP (fun w=>by rw[w,nT0] at z; cases z)]
  exact g
 refine⟨a,T,cls,_,rfl,I3.os,I3.bare,I3.base,I3.hok,Wi,hT3,Ta,⟨?_,?_⟩,q _ sm⟩
 ·cases z:s0.heap.get? a with
  | none=>rfl
  | some o=>
   obtain⟨o',g⟩:=(show Un (frs outer) [] H0 H1 s0.heap s1.heap from I.base).there a o z (by simp)
   rw[na'] at g; cases g
 ·cases z:s0.heap.get? T with
  | none=>rfl
  | some o=>
   obtain⟨o',g⟩:=(show Un (frs outer) [] H0 H2 s0.heap s'.heap from I2.base).there T o z (by simp)
   rw[fT] at g; cases g
def Pg (sp:Sp) (Oj:List V) (E:XK) (t:TA):TE:=fun σ H Q=>t σ H fun vs H1=>sp (vs++Oj) H1 Q (fun cls _ H2=>∀H3,(aF H1 H2->aF H1 H3)->E cls none H3)
theorem Tt {pins:List (Addr×Obj)} {σ:St} {H:Hp} {s:Shared} {Q:VK} {us:List Value} {vs:List V} {k:Nat} {x:Str} {ps:List Str} {sp:Sp} (c:GK P w K mg base k x ps sp) (hr:ir k (A.deeper (envOfC qual scope s0.heap.objs.size f cd))) (I:Inv (gq (my P w) P w K mg base N qual scope f cd A outer s0 H0 E) pins σ H s) (r:Vals vs us)
  (q:sp vs H Q (fun cls _ H2=>∀H3,(aF H H2->aF H H3)->E cls none H3)):wpAny (model P w) (A.deeper (envOfC qual scope s0.heap.objs.size f cd)) (call (.ref c.f) us) (EP (gq (my P w) P w K mg base N qual scope f cd A outer s0 H0 E) pins σ Q) (gq (my P w) P w K mg base N qual scope f cd A outer s0 H0 E).xe s:=by
 have hl2:us.length=ps.length:=by rw[<- r.length]; exact c.G.len _ _ _ _ q
 have hb:=c.b s us I.oJ (by rw[lZ]; exact hl2)
 rw[lZ] at hb
 refine wpAny_call (codeAny_mono (c.G.run _ _ s H ⟨us,[]⟩ us vs _ _ hr I.env0 hb r q) fun r s' z=>?_)
 cases r with
 | error e'=>
  have z':my P w (envOfC qual scope s0.heap.objs.size f cd::outer) H s (fun cls _ H2=>∀H3,(aF H H2->aF H H3)->E cls none H3) e' s':=z
  exact Mm I z' fun cls H2 y=>y
 | ok fl=>
  cases fl with
  | ret u=>
   obtain⟨v,H2,I2,rv2,q2⟩:=I.after z
   exact⟨v,H2,I2,rv2,q2⟩
  | next=>exact False.elim z
  | brk=>exact False.elim z
  | cont=>exact False.elim z
theorem pfe {k:Nat} {x:Str} {p pos:Pos} {e:Expr} {es:List Expr} {ps:List Str} {sp:Sp} {t:TA} (c:GK P w K mg base k x ps sp) (hr:ir k (A.deeper (envOfC qual scope s0.heap.objs.size f cd))) (ha:PA (gq (my P w) P w K mg base N qual scope f cd A outer s0 H0 E) (e::es) t)
  (hg:Gl (gq (my P w) P w K mg base N qual scope f cd A outer s0 H0 E) x:=by rfl) (hdb:(x==("__debug__" : Str))=false:=by decide) (h1:cC e=true:=by rfl) (h2:es.all cC=true:=by rfl) :
  PE (gq (my P w) P w K mg base N qual scope f cd A outer s0 H0 E) (.Call (.Name x p) (e::es) [] pos) (Pg sp [] E t):=by
 refine .mk ?_
 intro pins s σ H Q I h
 refine rY (uI I hg c.m ?_ hdb)
 refine PySem.W.callWith_K (h₀:=base) I.ok.mod.U9 c.kp (cQ (ha pos pins s σ H _ I h) fun us s1 ⟨vs,H1,I1,r,q⟩=>⟨I1.oJ,?_⟩) (cR h1) (cL h2)
 dsimp only at q
 rw[lZ] at q
 exact Tt c hr I1 r q
end
abbrev TX:=St->Hp->VK->(Value->Hp->Hp->Prop)->Prop
abbrev Oo:=Ends->(Value->St->Hp->Hp->Prop)->St->Hp->Prop
def XL (X:Cx) (pins:List (Addr×Obj)) (σ:St) (EE:Value->Hp->Hp->Prop):Value->Shared->Prop:=fun e s'=>∃H1 s1 E',Inv X pins σ H1 s1/\my X.prog X.w X.stack H1 s1 E' e s'/\∀cls H2,E' cls none H2->EE cls H1 H2
def XLs (X:Cx) (pins:List (Addr×Obj)) (EE:Value->St->Hp->Hp->Prop):Value->Shared->Prop:=fun e s'=>∃σ1 H1 s1 E',Inv X pins σ1 H1 s1/\my X.prog X.w X.stack H1 s1 E' e s'/\∀cls H2,E' cls none H2->EE cls σ1 H1 H2
structure PX (X:Cx) (e:Expr) (t:TX):Prop where
 mk ::
 go:∀(pins:List (Addr×Obj)) (s:Shared) (σ:St) (H:Hp) (Q:VK) (EE:Value->Hp->Hp->Prop),Inv X pins σ H s->t σ H Q EE->wpAny (model X.prog X.w) X.A (eval e X.env) (EP X pins σ Q) (XL X pins σ EE) s
structure PSX (X:Cx) (st:Stmt) (t:Oo):Prop where
 mk ::
 go:∀(pins:List (Addr×Obj)) (s:Shared) (σ:St) (H:Hp) (D:Ends) (EE:Value->St->Hp->Hp->Prop),Inv X pins σ H s->t D EE σ H->wpAny (model X.prog X.w) X.A (exec st X.env) (SP X pins D) (XLs X pins EE) s
structure aaS (X:Cx) (st:List Stmt) (t:Oo):Prop where
 mk ::
 go:∀(pins:List (Addr×Obj)) (s:Shared) (σ:St) (H:Hp) (D:Ends) (EE:Value->St->Hp->Hp->Prop),Inv X pins σ H s->t D EE σ H->wpAny (model X.prog X.w) X.A (execs st X.env) (SP X pins D) (XLs X pins EE) s
def xPe (te:TE):TX:=fun σ H Q _=>te σ H Q
def Vw (sp:Sp) (Oj:List V) (ta:TA):TX:=fun σ H Q EE=>ta σ H fun vs H1=>sp (vs++Oj) H1 Q (fun cls _ H2=>EE cls H1 H2)
def xIf (tc:TT) (a b:TX):TX:=fun σ H Q EE=>tc σ H fun d H1=>if d=true then a σ H1 Q EE else b σ H1 Q EE
def Zi (i:Nat) (t:TX):Oo:=fun D EE σ H=>t σ H (fun v H'=>D.nx (σ.set i (some v)) H') (fun cls H1 H2=>EE cls σ H1 H2)
def Zj (t:TX):Oo:=fun D EE σ H=>t σ H (fun _ H'=>D.nx σ H') (fun cls H1 H2=>EE cls σ H1 H2)
def abG (tc:TT) (a b:Oo):Oo:=fun D EE σ H=>tc σ H fun d H1=>if d=true then a D EE σ H1 else b D EE σ H1
def xPs (t:TS):Oo:=fun D _ σ H=>t D σ H
def abF (a b:Oo):Oo:=fun D EE σ H=>a { D with nx:=fun σ' H'=>b D EE σ' H' } EE σ H
section
variable {X:Cx}
theorem T6 {i:Nat} {x:Str} {e:Expr} {te:TX} {pos pos':Pos} (hN:X.N.Nodup) (he:PX X e te) (hi:X.N[i]?=some x:=by rfl) (hx:Loc X.env.scope x:=by first | exact Or.inl rfl | exact Or.inr rfl) (hs:swapsWith e (some (.Name x pos')) pos.line X.env=pure false:=by rfl) (hf:X.fn x=true\/X.env.scope.names.lookup x=some .local:=by first | exact .inl rfl | exact .inr rfl) (hn:∀e s,X.xe e s->False:=by exact fun _ _ z=>z) :
  PSX X (.Assign [.Name x pos'] e pos) (Zi i te):=by
 refine .mk ?_
 intro pins s σ H D EE I h
 refine wpAny_Assign_Name (gm (he.go pins s σ H _ _ I h) (fun v s1 ⟨y,H1,I1,r1,q1⟩=>?_) fun e s z=>?_) hs
 ·exact j9 I1 hN hi hx r1 (fun s2 I2=>⟨_,H1,I2,q1⟩) hf
 ·obtain⟨H1,s1,E',I1,c,q⟩:=z
  exact⟨σ,H1,s1,E',I1,c,q⟩
theorem Qx {st:Stmt} {a:Oo} (ha:PSX X st a):aaS X [st] a:=by
 refine .mk ?_
 intro pins s σ H D EE I h
 refine wpAny_execs_cons (gm (ha.go pins s σ H _ EE I h) (fun fl s1 z=>?_) fun _ _ z=>z)
 cases fl with
 | next=>exact zK z
 | ret u=>exact z
 | brk=>exact z
 | cont=>exact z
end
section
variable {X:Cx}
end
abbrev jA (K:PySem.W.Frag) (x:Str) (st:Stmt) (f:Addr):Prop:=∃(oc:Value) (od an:Option Addr) (sl:Array (Option Value)) (kV dc pm cd ct:Value),PySem.W.nsIn K mainGlobals x=some (some (.ref f))/\K.lookup f=some ⟨oc,od,.func (PySem.W.fnOf x x (eN st) (dD st) (aH st) .none kV dc pm an cd ct),sl⟩/\PySem.W.codeIn K cd x=true/\PySem.W.keepIn K (.ref f)=true
abbrev Wx (K:PySem.W.Frag) (x:Str) (st:Stmt) (f:Addr) (T:Addr) (i:Int):Prop:=∃(oc oT:Value) (od an dT:Option Addr) (sl sT:Array (Option Value)) (kV dc pm cd ct:Value) (t:Tok) (nT:Nat),PySem.W.nsIn K mainGlobals x=some (some (.ref f))/\K.lookup f=some ⟨oc,od,.func (PySem.W.fnOf x x (eN st) (dD st) (aH st) (.ref T) kV dc pm an cd ct),sl⟩/\PySem.W.codeIn K cd x=true/\PySem.W.keepIn K (.ref f)=true/\K.lookup T=some ⟨oT,dT,.seq #[.int i t] nT,sT⟩
structure Has (K:PySem.W.Frag) (mg:Str->Option Value) (x:Str) (st:Stmt) (ps:List Str) where
 f:Addr
 fd:FuncData
 F:iW K x x st f fd
 b:Binds K fd ps []
 m:mg x=some (.ref f)
structure R8 (K:PySem.W.Frag) (mg:Str->Option Value) (x:Str) (st:Stmt) (ps:List Str) (i:Int) where
 f:Addr
 fd:FuncData
 T:Addr
 t:Tok
 F:xR K x x st f fd T i t
 b:Binds K fd ps []
 bd:Binds K fd ps [.int i t]
 m:mg x=some (.ref f)
section
variable {K:PySem.W.Frag} {h:Heap} {mg:Str->Option Value}
theorem jA.mk {x:Str} {st:Stmt} {f:Addr} {oc:Value} {od an:Option Addr} {sl:Array (Option Value)} {kV dc pm cd ct:Value} (a:PySem.W.nsIn K mainGlobals x=some (some (.ref f))) (l:K.lookup f=some ⟨oc,od,.func (PySem.W.fnOf x x (eN st) (dD st) (aH st) .none kV dc pm an cd ct),sl⟩) (c:PySem.W.codeIn K cd x=true) (k:PySem.W.keepIn K (.ref f)=true):jA K x st f:=⟨oc,od,an,sl,kV,dc,pm,cd,ct,a,l,c,k⟩
theorem Wx.mk {x:Str} {st:Stmt} {f T:Addr} {i:Int} {oc oT:Value} {od an dT:Option Addr} {sl sT:Array (Option Value)} {kV dc pm cd ct:Value} {t:Tok} {nT:Nat} (a:PySem.W.nsIn K mainGlobals x=some (some (.ref f))) (l:K.lookup f=some ⟨oc,od,.func (PySem.W.fnOf x x (eN st) (dD st) (aH st) (.ref T) kV dc pm an cd ct),sl⟩) (c:PySem.W.codeIn K cd x=true) (k:PySem.W.keepIn K (.ref f)=true) (e:K.lookup T=some ⟨oT,dT,.seq #[.int i t] nT,sT⟩):Wx K x st f T i:=⟨oc,oT,od,an,dT,sl,sT,kV,dc,pm,cd,ct,t,nT,a,l,c,k,e⟩
theorem jA.has {x:Str} {st:Stmt} {f:Addr} (e:jA K x st f) (X:K.In h) (G:h.Ns mainGlobals mg) {ps:List Str} (H:∀(kV doc pm:Value) (an:Option Addr) (cdv ct:Value) (us:List Value),us.length=ps.length->bindArgs (PySem.W.fnOf x x (eN st) (dD st) (aH st) .none kV doc pm an cdv ct) ⟨us,[]⟩=pure (ps.zip us)):Nonempty (Has K mg x st ps):=by
 obtain⟨oc,od,an,sl,kV,dc,pm,cd,ct,a,l,c,k⟩:=e
 have F:=Rx (st:=st) l c k
 exact⟨⟨_,_,F,F.binds H,PySem.W.mg_of X G a⟩⟩
theorem Wx.has {x:Str} {st:Stmt} {f T:Addr} {i:Int} (e:Wx K x st f T i) (X:K.In h) (G:h.Ns mainGlobals mg) {ps:List Str}
  (H:∀(t:Tok) (kV doc pm:Value) (an:Option Addr) (cdv ct:Value) (us:List Value),(us++[]).length=ps.length->∃k,bindArgs (PySem.W.fnOf x x (eN st) (dD st) (aH st) (.ref T) kV doc pm an cdv ct) ⟨us,[]⟩=seqItems? (.ref T) >>= k/\k (some #[.int i t])=pure (ps.zip (us++[])))
  (H':∀(t:Tok) (kV doc pm:Value) (an:Option Addr) (cdv ct:Value) (us:List Value),(us++[Value.int i t]).length=ps.length->∃k,bindArgs (PySem.W.fnOf x x (eN st) (dD st) (aH st) (.ref T) kV doc pm an cdv ct) ⟨us,[]⟩=seqItems? (.ref T) >>= k/\k (some #[.int i t])=pure (ps.zip (us++[.int i t]))):Nonempty (R8 K mg x st ps i):=by
 obtain⟨oc,oT,od,an,dT,sl,sT,kV,dc,pm,cd,ct,t,nT,a,l,c,k,e⟩:=e
 have F:xR K x x st f _ T i t:=⟨⟨_,_,_,_,_,_,_,_,_,rfl,l,c⟩,k,⟨_,_,e,rfl⟩⟩
 exact⟨⟨_,_,_,_,F,F.binds (H t),F.binds (H' t),PySem.W.mg_of X G a⟩⟩
def Has.ct {x:Str} {st:Stmt} {ps:List Str} {k:Nat} {sp:Sp} (h:Has K mg x st ps) (P:Program) (w:World) (base:Heap) (G:bQ P w K mg base iH k h.f h.fd ps sp):Ct P w K mg base k x ps sp:=⟨h.f,h.fd,G,h.F.kp,h.b,h.m⟩
def Has.ctE {x:Str} {st:Stmt} {ps:List Str} {k:Nat} {sp:Sp} (h:Has K mg x st ps) (P:Program) (w:World) (base:Heap) (G:bQ P w K mg base (my P w) k h.f h.fd ps sp):GK P w K mg base k x ps sp:=⟨h.f,h.fd,G,h.F.kp,h.b,h.m⟩
def R8.ct {x:Str} {st:Stmt} {ps:List Str} {i:Int} {k:Nat} {sp:Sp} (h:R8 K mg x st ps i) (P:Program) (w:World) (base:Heap) (G:bQ P w K mg base iH k h.f h.fd ps sp):YC P w K mg base k x ps i sp:=⟨h.f,h.fd,h.t,G,h.F.kp,h.b,h.bd,h.m⟩
abbrev Nb (K:PySem.W.Frag) (x:Str):Prop:=PySem.W.nsIn K mainGlobals x=some none
abbrev Ni (K:PySem.W.Frag) (x:Str) (i:Int):Prop:=∃t,PySem.W.nsIn K mainGlobals x=some (some (.int i t))
abbrev yJ (K:PySem.W.Frag) (x s:Str):Prop:=∃t,PySem.W.nsIn K mainGlobals x=some (some (.str s t))
theorem Ni.mk {x:Str} {i:Int} {t:Tok} (a:PySem.W.nsIn K mainGlobals x=some (some (.int i t))):Ni K x i:=⟨t,a⟩
theorem yJ.mk {x s:Str} {t:Tok} (a:PySem.W.nsIn K mainGlobals x=some (some (.str s t))):yJ K x s:=⟨t,a⟩
theorem Ni.gi {x:Str} {i:Int} (e:Ni K x i) (X:K.In h) (G:h.Ns mainGlobals mg):Gi mg x i:=let ⟨t,z⟩:=e; ⟨t,PySem.W.mg_of X G z⟩
theorem yJ.gs {x s:Str} (e:yJ K x s) (X:K.In h) (G:h.Ns mainGlobals mg):Gs mg x s:=let ⟨t,z⟩:=e; ⟨t,PySem.W.mg_of X G z⟩
abbrev NT (K:PySem.W.Frag) (x:Str) (vs:List Value):Prop:=∃(a:Addr) (n:Nat) (sl:Array (Option Value)),PySem.W.nsIn K mainGlobals x=some (some (.ref a))/\K.lookup a=some ⟨.type "tuple",none,.seq vs.toArray n,sl⟩
theorem NT.mk {x:Str} {vs:List Value} {a:Addr} {n:Nat} {sl:Array (Option Value)} (b:PySem.W.nsIn K mainGlobals x=some (some (.ref a))) (l:K.lookup a=some ⟨.type "tuple",none,.seq vs.toArray n,sl⟩):NT K x vs:=⟨a,n,sl,b,l⟩
end
theorem Yl:bootBuiltins "set" = some (.type "set"):=by decide +kernel
section
variable {X:Cx} {pins:List (Addr×Obj)} {σ:St} {H1:Hp} {s1 s':Shared}
theorem Nt {e:Value} {E:XK} {D:Ends} {hx:Str} {CH:Addr} {hp pos:Pos} {b0:Stmt} {body:List Stmt} {ts:TS} (I:Inv X pins σ H1 s1) (c:my X.prog X.w X.stack H1 s1 E e s')
  (hE:∀cls H2,E cls none H2->PySem.W.exmOne X.K cls (.ref CH)=some true/\∀a H3,(aF H1 H2->aF H1 H3)->aaX H3 a cls->ts D σ H3)
  (hg:Gl X hx) (hm:X.mg hx=some (.ref CH)) (hs:∀e,yI (X.in' e) (b0::body) ts) (hn:∀e s,X.xe e s->False) (st:X.stack=X.env::X.outer) (fL:X.env.frame=some X.env.locals) (hd:(hx==("__debug__" : Str))=false) :
  wpAny (model X.prog X.w) X.A (noteFrame e X.env) (fun _ s2=>wpAny (model X.prog X.w) X.A (setFlight e none) (fun _ s3=>wpAny (model X.prog X.w) X.A (handleBy e X.env [.ExceptHandler (some (.Name hx hp)) none (b0::body) pos]) (SP X pins D) X.xe s3) X.xe s2) X.xe s':=by
 obtain⟨a,T0,cls,H2,rfl,os,bare,un,hok,ha,hT0,n0,⟨na',XQ⟩,q⟩:=c
 have na:H1 a=none:=I.hok.none na'
 have nT0:H1 T0=none:=I.hok.none XQ
 obtain⟨ex,q⟩:=hE cls H2 q
 have I2:Inv X pins σ H2 s':=I.call' (ch:=[]) os un hok bare fun b z=>nomatch z
 have ff:s'.heap.FunFrames X.base (X.env::X.outer):=by rw[<- st]; exact I2.stack
 have fr:X.A.frames=some (X.env::X.outer):=by rw[<- st]; exact I2.ok.frames
 refine noteE2 fr ff fL (xT.at (hok a _ ha)) (yH.at (hok T0 _ hT0)) n0 fun h3 T nt=>?_
 have fT:s'.heap.get? T=none:=by
  cases z:s'.heap.get? T with
  | none=>rfl
  | some o=>exact absurd (b_ z) (Nat.not_lt.mpr nt.fresh)
 have nT:H2 T=none:=hok.none fT
 have Ta:T≠a:=fun z=>by rw[z,ha] at nT; cases nT
 have TT:T≠T0:=fun z=>by rw[z,hT0] at nT; cases nT
 have I3:Inv X pins σ (upd (upd (upd H2 T0 (Sx T0)) a (xT a cls T)) T (yH T)) { s' with heap:=h3 }:=by
  refine I2.ext (fun b=>b=a\/b=T0\/b=T) (fun b o z y x=>nt.keep b o (fun w=>z (.inl w)) (fun w=>z (.inr (.inl w))) (by rw[<- st]; exact y) x) (fun b o z x=>nt.slot b o (fun w=>z (.inl w)) (fun w=>z (.inr (.inl w))) x) (fun b o z x=>?_) (fun b z=>?_) (fun b z=>?_) (fun b u z y=>?_)
  ·rcases z with rfl | rfl | rfl
   ·obtain⟨oe,vs,e1,_⟩:=nt.ex; exact⟨_,e1⟩
   ·exact nt.old
   ·rw[fT] at x; cases x
  ·rcases z with rfl | rfl | rfl
   ·exact .inr ⟨_,ha⟩
   ·exact .inr ⟨_,hT0⟩
   ·exact .inl ⟨nT,fT⟩
  ·rw[aP fun w=>z (.inr (.inr w)),aP fun w=>z (.inl w),aP fun w=>z (.inr (.inl w))]
  ·rcases z with rfl | rfl | rfl
   ·rw[aP (Ne.symm Ta),az] at y; cases y; exact QT nt.ex
   ·rw[aP (Ne.symm TT),aP n0,az] at y; cases y; exact Wb nt.old
   ·rw[az] at y; cases y; exact J0 nt.tb
 have Wi:upd (upd (upd H2 T0 (Sx T0)) a (xT a cls T)) T (yH T) a=some (xT a cls T):=by rw[aP (Ne.symm Ta),az]
 have hT3:upd (upd (upd H2 T0 (Sx T0)) a (xT a cls T)) T (yH T) T=some (yH T):=az
 have sm:aF H1 H2->aF H1 (upd (upd (upd H2 T0 (Sx T0)) a (xT a cls T)) T (yH T)):=fun y b o z=>by
  have g:=y b o z
  rw[aP (fun w=>by rw[w,nT] at g; cases g),aP (fun w=>by rw[w,na] at z; cases z),aP (fun w=>by rw[w,nT0] at z; cases z)]
  exact g
 have q3:=q a _ sm ⟨T,Wi⟩
 generalize upd (upd (upd H2 T0 (Sx T0)) a (xT a cls T)) T (yH T)=H3 at I3 Wi hT3 q3
 generalize ({ s' with heap:=h3 }:Shared)=s3 at I3
 refine wpAny_handleBy_cons (codeAny_handlers_test ?_) (by intro z; cases z)
 refine Calls.Name_function_global I3.ok.kind hg (Calls.loadGlobal_global (by rw[I3.ok.glob]; exact I3.mod.glob.keeps I3.bk) hm ?_) hd
 obtain⟨oe,vs,e1,⟨ec,_⟩,ed,ev⟩:=xT.at (I3.hok a _ Wi)
 have LT:PySem.W.Looks (model X.prog X.w) s3.heap (typeOf (.ref a)) cls:=ec▸(PySem.W.Looks.ld e1).andThen .now
 refine(PySem.W.exm_one I3.oJ LT ex).here ?_
 refine codeAny_handlers_suite (Nm I3 Wi hT3 fun s4 I4=>?_)
 refine gm (hs (.ref a) pins s4 _ _ _ (I4.inE (.ref a)) q3) (fun fl s6 z=>?_) fun e6 s6 z=>(hn _ _ z).elim
 cases fl with
 | next=>
  obtain⟨σ6,H6,I6,q6⟩:=z
  exact⟨σ6,H6,I6.Ui I4.ok,q6⟩
 | ret u=>
  obtain⟨v,σ6,H6,I6,rv,q6⟩:=z
  exact⟨v,σ6,H6,I6.Ui I4.ok,rv,q6⟩
 | brk=>
  obtain⟨σ6,H6,I6,q6⟩:=z
  exact⟨σ6,H6,I6.Ui I4.ok,q6⟩
 | cont=>
  obtain⟨σ6,H6,I6,q6⟩:=z
  exact⟨σ6,H6,I6.Ui I4.ok,q6⟩
def VB (ok:Value->Prop) (tb:Oo) (ts:TS):TS:=fun D σ H=>tb D (fun cls σ1 H1 H2=>ok cls/\∀a H3,(aF H1 H2->aF H1 H3)->aaX H3 a cls->ts D σ1 H3) σ H
theorem T7 {K:PySem.W.Frag} {hx:Str} {CH:Addr} {hp pos tp:Pos} {body:List Stmt} {b0:Stmt} {suite:List Stmt} {tb:Oo} {ts:TS} (hK:X.K=K)
  (hb:aaS X body tb) (hs:∀e,yI (X.in' e) (b0::suite) ts) (hm:X.mg hx=some (.ref CH)) (hgx:Gl X hx:=by rfl)
  (hn:∀e s,X.xe e s->False:=by exact fun _ _ z=>z) (st:X.stack=X.env::X.outer:=by rfl) (fL:X.env.frame=some X.env.locals:=by rfl) (hd:(hx==("__debug__" : Str))=false:=by decide) :
  PS X (.Try body [.ExceptHandler (some (.Name hx hp)) none (b0::suite) pos] [] [] tp) (VB (fun cls=>PySem.W.exmOne K cls (.ref CH)=some true) tb ts):=by
 subst hK
 refine .mk ?_
 intro pins s σ H D I h
 refine wpAny_Try_except (gm (hb.go pins s σ H D _ I h) (fun fl s1 z=>?_) fun e s' z=>?_)
 ·cases fl with
  | next=>exact zK z
  | ret u=>exact z
  | brk=>exact z
  | cont=>exact z
 ·obtain⟨σ1,H1,s1,E',I1,c,q⟩:=z
  exact Nt I1 c q hgx hm hs hn st fL hd
end
section
variable {P:Program} {w:World} {K:PySem.W.Frag} {mg:Str->Option Value} {base:Heap}
theorem xR.YF {x qual:Str} {st:Stmt} {f T:Addr} {i:Int} {t:Tok} {fd:FuncData} {N ps:List Str} {k:Nat} {sp:Sp} (F:xR K x qual st f fd T i t) (S:aV N ps (aH st)) (len:∀vs H Q E,sp vs H Q E->vs.length=ps.length)
  (hbody:∀(cdv:Value) (A:Around) (outer:List Env) (s:Shared) (H:Hp) (vs:List V) (Q:VK) (E:XK),lW P w H s.heap->ir k (A.deeper (envOfC qual (aH st) s.heap.objs.size f cdv))->sp vs H Q E ->
   ∃t,yI (gq (my P w) P w K mg base N qual (aH st) f cdv A outer s H E) (dD st) t/\t { nx:=fun _ H'=>Q .non H',rt:=Q } (start N vs) H):bQ P w K mg base (my P w) (k+1) f fd ps sp:=by
 obtain⟨oc,od,kV,doc,pm,an,cdv,ct,osl,rfl,lk,hcd⟩:=F.ex
 exact Rz lk hcd S len fun A outer s H vs Q E Nk hr hsp=>hbody cdv A outer s H vs Q E Nk hr hsp
structure Vv (P:Program) (w:World) (K:PySem.W.Frag) (mg:Str->Option Value) (base:Heap) (k:Nat) (x:Str) (ps:List Str) (i:Int) (sp:Sp) where
 f:Addr
 fd:FuncData
 t:Tok
 G:bQ P w K mg base (my P w) k f fd ps sp
 kp:PySem.W.keepIn K (.ref f)=true
 b:Binds K fd ps []
 bd:Binds K fd ps [.int i t]
 m:mg x=some (.ref f)
def Vv.mono {j k:Nat} {x:Str} {ps:List Str} {i:Int} {sp:Sp} (c:Vv P w K mg base j x ps i sp) (h:j<=k):Vv P w K mg base k x ps i sp:={ c with G:=c.G.mono h }
def Vv.all {k:Nat} {x:Str} {ps:List Str} {i:Int} {sp:Sp} (c:Vv P w K mg base k x ps i sp):GK P w K mg base k x ps sp:=⟨c.f,c.fd,c.G,c.kp,c.b,c.m⟩
def R8.ctF {x:Str} {st:Stmt} {ps:List Str} {i:Int} {k:Nat} {sp:Sp} (h:R8 K mg x st ps i) (P:Program) (w:World) (base:Heap) (G:bQ P w K mg base (my P w) k h.f h.fd ps sp):Vv P w K mg base k x ps i sp:=⟨h.f,h.fd,h.t,G,h.F.kp,h.b,h.bd,h.m⟩
end
section
variable {X:Cx}
end
section
variable {X:Cx}
def V3:List V->Hp->VK->Prop:=fun vs H Q=>∃j:Int,vs=[.int j]/\-(2 ^ 62)<=j/\j<2 ^ 62/\∀p H',H p=none->aF H H'->H' p=some (.Tv 0 j)->Q (.ref p) H'
theorem Nx:cT X (.type "range") V3:=by
 refine .mk ?_
 intro pins s σ H vs us Q I r h
 obtain⟨j,rfl,h1,h2,q⟩:=h
 obtain⟨u,rfl,t,rfl⟩:=r.one
 refine call_range_1 ?_
 have hf:=I.hok.fresh (bF s.heap.objs.size)
 exact⟨.ref s.heap.objs.size,_,I.laid (a:=s.heap.objs.size) (o:=.Tv 0 j) (fun _ _ q=>eO _ q) (bF _) (show cz X.prog X.w _ _ _ (.Tv 0 j) from⟨_,_,_,dM _ rfl⟩),rfl,q _ _ hf (aK hf _) az⟩
def V5:List V->Hp->VK->Prop:=fun vs H Q=>∃(p:Addr) (j:Int),vs=[.ref p]/\H p=some (.Tv 0 j)/\-(2 ^ 62)<=j/\j<2 ^ 62/\j.toNat<=1000/\∀l H',H l=none->aF H H'->H' l=some (.lst ((List.range j.toNat).map fun i:Nat=>V.int i))->Q (.ref l) H'
theorem NB (hd:X.A.handled=none):cT X (.type "list") V5:=by
 refine .mk ?_
 intro pins s σ H vs us Q I r h
 obtain⟨p,j,rfl,hp,h1,h2,h3,q⟩:=h
 obtain⟨u,rfl,ru⟩:=r.one
 cases ru
 obtain⟨t,u,v,e⟩:=(show cz X.prog X.w H s.heap p (.Tv 0 j) from I.hok p _ hp)
 have e2:Builtin.Range.rangeSize 0 j 1=(j.toNat:Nat):=by rw[rangeSize_one]; split <;> omega
 refine call_list_range (n:=j.toNat) hd (show IsRange s.heap p 0 j 1 t u v from e) (small_one (by omega) (by omega) h1 h2) e2 (by omega) fun h' tk acc c' kp el it=>?_
 have hf:=I.hok.fresh (bF s.heap.objs.size)
 have hz:((List.range j.toNat).map fun i:Nat=>V.int i).length<=sizeLine:=by
  rw[bR,JC,sizeLine_eq]; omega
 have vl:Vals ((List.range j.toNat).map fun i:Nat=>V.int i) acc.toList:=by
  have key:∀(n k:Nat) (l:List Value),l.length=n->(∀(i:Nat) (v:Value),l[i]?=some v->∃t,v=Value.int ((k+i:Nat):Int) t)->Vals ((List.range' k n).map fun i:Nat=>V.int i) l:=by
   intro n
   induction n with
   | zero=>
    intro k l hl _
    rw[L_.mp hl]
    exact .nil
   | succ n ih=>
    intro k l hl hv
    match l,hl with
    | x::l,hl=>
     obtain⟨t,rfl⟩:=hv 0 x rfl
     rw[List.range'_succ]
     refine .cons ⟨t,rfl⟩ (ih (k+1) l (by simpa using hl) fun i v h=>?_)
     obtain⟨t,rfl⟩:=hv (i+1) v h
     exact⟨t,by rw[show k+(i+1)=k+1+i by omega]⟩
  rw[List.range_eq_range']
  refine key _ 0 _ (by rw[l_]; exact it.1) fun i v h=>?_
  rw[Ej] at h
  obtain⟨t,rfl⟩:=it.2 i v h
  exact⟨t,by simp⟩
 exact⟨.ref s.heap.objs.size,_,I.laid (a:=s.heap.objs.size) (o:=.lst ((List.range j.toNat).map fun i:Nat=>V.int i)) (t':=tk) kp (bF _) (show cz X.prog X.w _ h' _ (.lst _) from⟨hz,acc.toList,c',vl,el⟩),rfl,q _ _ hf (aK hf _) az⟩
end
def iOr (a b:TI):TI:=fun σ H R=>a σ H R\/b σ H R
theorem PI.or {X:Cx} {tg it:Expr} {a b:TI} (h:PI X tg it a) (h':PI X tg it b):PI X tg it (iOr a b):=.mk fun pins s σ H R I q=>q.elim (h pins s σ H R I) (h' pins s σ H R I)
theorem yR {nt:Nat} {js:List Nat} {a b:TI} {g:TG} {tc:TT} {te:TE} {σ:St} {H:Hp} {Q:VK}:eG nt js (iOr a b) g tc te σ H Q=(eG nt js a g tc te σ H Q\/eG nt js b g tc te σ H Q):=rfl
theorem Ub {X:Cx} {K:PySem.W.Frag} {e e':Expr} {elts:List Expr} {x1} {tp p pos:Pos} {ta:TA} (hK:X.K=K) (hm:X.mg "zip" = none) (ha:PA X [e,e'] ta) (hg:Gl X "zip" := by rfl) (h1:cC e=true:=by rfl) (h2:cC e'=true:=by rfl) :
  PI X (.Tuple elts x1 tp) (.Call (.Name "zip" p) [e,e'] [] pos) (iOr (FT K ta) (Ro K ta)):=.or (qy hK hm ha hg h1 h2) (Ua hK hm ha hg h1 h2)
def Ih (ns:List Int) (i:Int) (j:Nat):Prop:=ns[j]?=some i/\∀m,m<j->ns[m]?≠some i
section
variable {X:Cx}
end
section
variable {X:Cx}
end
section
variable {X:Cx}
end
section
variable {X:Cx}
end
section
variable {X:Cx}
end
end L2
namespace L2
open PySem PySem.Spec PyProof.Rows PySem.MeetsSeq3
section
variable {X:Cx}
end
end L2
namespace L2
open PySem PySem.Spec PyProof.Rows
section
variable {X:Cx}
def Oz (f:Addr) (i:Nat) (sp:Sp) (t:TA):TX:=fun σ H Q EE=>rF i σ H fun v H1=>v=.ref f/\H1=H/\Vw sp [] t σ H Q EE
theorem Qw {k:Nat} {x y:Str} {p pos:Pos} {e:Expr} {es:List Expr} {ps:List Str} {sp:Sp} {t:TA} (c:GK X.prog X.w X.K X.mg X.base k y ps sp) (hr:ir k X.A) (i:Nat) (ha:PA X (e::es) t) (hN:X.N[i]?=some x:=by rfl) (hv:Vis X.env.scope x:=by first | exact Or.inl rfl | exact Or.inr (Or.inl rfl) | exact Or.inr (Or.inr rfl))
  (hn:∀e s,X.xe e s->False:=by exact fun _ _ z=>z) (hdb:(x==("__debug__" : Str))=false:=by decide) (hcd:(x==("__classdict__" : Str))=false:=by decide) (h1:cC e=true:=by rfl) (h2:es.all cC=true:=by rfl) :
  PX X (.Call (.Name x p) (e::es) [] pos) (Oz c.f i sp t):=by
 refine .mk ?_
 intro pins s0 σ H Q EE I0 h0
 refine rY (gm (QG (pos:=p) hN hv hdb hcd pins s0 σ H _ I0 h0) (fun u s ⟨v,H',I,rv,e1,e2,h⟩=>?_) fun _ _ z=>(hn _ _ z).elim)
 subst e1 e2
 obtain rfl:u=Value.ref c.f:=rv
 refine PySem.W.callWith_K (h₀:=X.base) I.ok.mod.U9 c.kp (gm (ha pos pins s σ H' _ I h) (fun us s1 ⟨vs,H1,I1,r,q⟩=>⟨I1.oJ,?_⟩) fun _ _ z=>(hn _ _ z).elim) (cR h1) (cL h2)
 dsimp only at q
 rw[lZ] at q
 have hl2:us.length=ps.length:=by rw[<- r.length]; exact c.G.len _ _ _ _ q
 have hb:=c.b s1 us I1.oJ (by rw[lZ]; exact hl2)
 rw[lZ] at hb
 refine wpAny_call (codeAny_mono (c.G.run _ _ s1 H1 ⟨us,[]⟩ us vs _ _ hr I1.env0 hb r q) fun r s' z=>?_)
 cases r with
 | error e'=>exact⟨H1,s1,fun cls _ H2=>EE cls H1 H2,I1,z,fun cls H2 y=>y⟩
 | ok fl=>
  cases fl with
  | ret u=>
   obtain⟨v,H2,I2,rv2,q2⟩:=I1.after z
   exact⟨v,H2,I2,rv2,q2⟩
  | next=>exact False.elim z
  | brk=>exact False.elim z
  | cont=>exact False.elim z
theorem Xq {k:Nat} {y:Str} {pos:Pos} {ps:List Str} {sp:Sp} (c:GK X.prog X.w X.K X.mg X.base k y ps sp) (hg:Gl X y:=by rfl) (hdb:(y==("__debug__" : Str))=false:=by decide):PE X (.Name y pos) (tC (.ref c.f)):=uz hg c.m rfl hdb
end
theorem uO.mk4 {X:Cx} {x y z y' z':Str} {sc:Scope} {j j2 j3 j4:Nat} (hj:X.N[j]?=some y:=by rfl) (hj2:X.N[j2]?=some z:=by rfl) (hj3:X.N[j3]?=some y':=by rfl) (hj4:X.N[j4]?=some z':=by rfl) (k:sc.kind=.function:=by rfl) (n:(sc.names.all fun y=>y.2 != .cell)=true:=by decide +kernel)
  (l:(sc.names.all fun y=>y.2 != .local || sc.names.lookup y.1==some .local)=true:=by decide +kernel) (al:(sc.names.all fun y=>y.2 != .free || (X.env.cells.lookup y.1).isSome)=true:=by rfl)
  (k1:X.env.kindOf y=some .cell:=by rfl) (k2:sc.names.lookup y=some .free:=by rfl) (k3:X.env.kindOf z=some .cell:=by rfl) (k4:sc.names.lookup z=some .free:=by rfl)
  (k5:X.env.kindOf y'=some .cell:=by rfl) (k6:sc.names.lookup y'=some .free:=by rfl) (k7:X.env.kindOf z'=some .cell:=by rfl) (k8:sc.names.lookup z'=some .free:=by rfl):uO X [x,y,z,y',z'] [j,j2,j3,j4] sc:=by
 have n':∀y∈sc.names,y.2≠.cell:=fun y hy=>by have:=ue.mp n y hy; simpa using this
 refine⟨k,n',m7 l,jw al,al,rfl,fun i j' h=>?_,fun v h=>?_⟩
 ·match i,h with
  | 0,h=>simp at h; subst h; exact hj.symm
  | 1,h=>simp at h; subst h; exact hj2.symm
  | 2,h=>simp at h; subst h; exact hj3.symm
  | 3,h=>simp at h; subst h; exact hj4.symm
  | i+4,h=>simp at h
 ·have e:v=y\/v=z\/v=y'\/v=z':=by simpa using h
  rcases e with e | e | e | e
  ·subst e; exact⟨k1,k2⟩
  ·subst e; exact⟨k3,k4⟩
  ·subst e; exact⟨k5,k6⟩
  ·subst e; exact⟨k7,k8⟩
section
variable {X:Cx}
end
end L2
namespace K45
open PySem L2
def top (i:Nat):Stmt:=PySem.Challenge.pw_waithands_k45_kept_or_broken.main.body.getD i (.Pass ⟨0,0,0,0⟩)
abbrev vm:Stmt:=top 6
abbrev lE:Stmt:=top 7
abbrev Hm:Stmt:=top 8
abbrev jM:Stmt:=top 9
abbrev Hl:Stmt:=top 11
abbrev mO:Stmt:=top 12
abbrev oZ:Stmt:=top 13
abbrev ph:Stmt:=top 16
abbrev Hn:Stmt:=top 18
abbrev gP:Stmt:=top 19
abbrev mU:Stmt:=top 20
abbrev jK:Stmt:=top 21
abbrev mL:Stmt:=top 22
abbrev mV:Stmt:=top 28
abbrev mQ:Stmt:=top 29
abbrev jL:Stmt:=top 30
abbrev Qh:Stmt:=top 36
abbrev vh:Stmt:=top 37
abbrev vg:Stmt:=top 38
abbrev jN:Stmt:=top 39
abbrev jO:Stmt:=top 40
abbrev lG:Stmt:=top 41
abbrev vo:Stmt:=top 42
abbrev vD:Stmt:=top 43
abbrev lH:Stmt:=top 44
abbrev rK:Stmt:=top 45
abbrev vA:Stmt:=top 47
abbrev vB:Stmt:=top 48
abbrev o_:Stmt:=top 49
abbrev Br:Stmt:=top 50
abbrev jh:Stmt:=top 51
abbrev iI:Stmt:=top 52
abbrev rM:Stmt:=top 53
abbrev lF:Stmt:=top 54
abbrev vq:Stmt:=top 55
abbrev vC:Stmt:=top 56
abbrev qm:Stmt:=top 59
abbrev vy:Stmt:=top 60
abbrev Bs:Stmt:=top 61
abbrev iJ:Stmt:=top 62
abbrev mR:Stmt:=top 63
abbrev gQ:Stmt:=top 64
abbrev rN:Stmt:=top 65
abbrev vp:Stmt:=top 66
structure Bi (mg:Str->Option Value):Prop where
 tuple:mg "tuple" = none
 max:mg "max" = none
 min:mg "min" = none
 enumerate:mg "enumerate" = none
 zip:mg "zip" = none
 sum:mg "sum" = none
 list:mg "list" = none
 reversed:mg "reversed" = none
 range:mg "range" = none
 len:mg "len" = none
 set:mg "set" = none
 abs:mg "abs" = none
 int:mg "int" = none
 isinstance:mg "isinstance" = none
 str:mg "str" = none
 all:mg "all" = none
 bool:mg "bool" = none
 any:mg "any" = none
structure Co (K:PySem.W.Frag) (mg:Str->Option Value):Prop where
 Wo:GT2 K mg "WHATS" OJ
 OVER:Gs mg "OVER" "over"
 UNDER:Gs mg "UNDER" "under"
 EACH:Gs mg "EACH" "each"
 Yx:Gi mg "MOST_HANDS" 12
 Di:Gi mg "TRIPLES_SEEN" 3
 LIMIT:Gi mg "LIMIT" 300
 Ax:Gi mg "MOST_COME" 23
 KEPT:Gs mg "KEPT" "kept"
 BROKEN:Gs mg "BROKEN" "broken"
local macro_rules | `(tactic| walk_at "o")=>`(tactic| first | exact Or.inl rfl | exact Or.inr rfl)
local macro_rules | `(tactic| walk_at "c")=>`(tactic| exact⟨rfl,rfl,rfl,by decide +kernel,rfl,by decide +kernel,by decide +kernel⟩)
local macro_rules | `(tactic| walk_at "rd")=>`(tactic| simp only[L2.start,x_,List.map_nil,jD,List.length_nil,Nat.reduceAdd,Nat.reduceSub,List.replicate,List.cons_append,Hs,lZ,
 Bj,Th,Zq,Zo,VG,xW,dG,VL,Tz,Tw,Ql,TY,if_true,if_false,jk,xZ,Bool.not_false,TV,TQ,Xh,Xe,Xg,Xd,T3,T4,Qm,TF,Xf,Z0,tC,Tf,tUn,T5,rI,rU,O9,Zy,tOr,Zv,VN,Zt,Zu,tIf,pW,WY,Jd,Tg,tB,WX,tSl,Jc,VF,aaB,Td,Zw,abJ,VJ,O8,tBM,Zx,Zr,VM,ipI,VH,WW,tFv,tJs,tJ1,tJ0,abK,Pg,O_,xPe,Vw,xIf,Zi,Zj,abG,xPs,abF,VD,V4,V3,V5])
section
variable {P:Program} {w:World} {K:PySem.W.Frag} {mg:Str->Option Value} {base:Heap} {f:Addr} {fd:FuncData} {k:Nat}
theorem vZ {X:Cx}:rm X (binaryOp .FloorDiv) (rI (fun _ j=>0<j/\j<10 ^ 60) fun i j=>.int (i / j)):=opI fun i j _ _ _ _ _ hc q=>by
 have h1:(0:Int)<j:=hc.1
 have h2:j<10 ^ 60:=hc.2
 refine PyProof.Rows.floordiv_int (by omega) (by rw[Int.fdiv_eq_ediv_of_nonneg i (by omega)]; exact q) (.inl (PyProof.noPylong_of_log2 ?_))
 have:j.natAbs<10 ^ 60:=by omega
 by_cases z:j.natAbs=0
 ·omega
 ·have h3:j.natAbs<2 ^ 1000:=Nat.lt_trans this (by decide +kernel)
  have:=(Nat.log2_lt z).mpr h3
  omega
structure fX where
 w:Str
 s:Nat
 g:Str
 n:Int
 t:Int
def pq (r:fX):PyData:=.tuple [.str r.w,.int r.s,.str r.g,.int r.n,.int r.t]
def qp (rs:List fX):PyData:=.tuple (rs.map pq)
def Ho (dZ:List (List fX)):PyData:=.tuple (dZ.map qp)
structure oW (r:fX):Prop where
 w:r.w∈(["come","done","wait"]:List Str)
 s:1<=r.s/\r.s<=4
 n:0<=r.n/\r.n<=1000000000000000000000000000000
 e:r.g = "each" -> 1<=r.n
def jg (l:List Int):PyData:=.tuple (l.map .int)
def Ha (cD:List (List Int)):PyData:=.tuple (cD.map jg)
structure j0 (cD:List (List Int)):Prop where
 n:cD.length=4
 l:∀x∈cD,x.length=3
def j7 (w:Str) (s:Nat) (cD:List (List Int)):Int:=((cD.take s).map fun l=>l.getD (c7 w) 0).sum
def says (r:fX) (h:Int) (cD:List (List Int)):Option Int:=
 if r.g = "each" then some ((j7 r.w r.s cD+r.n*r.s-1) / (r.n*r.s))
 else if(r.g = "over" /\ j7 r.w r.s cD>r.n*r.s)\/(r.g = "under" /\ j7 r.w r.s cD<r.n*r.s) then some (h+r.t) else none
def ql:Option Int->V
 | none=>.non
 | some i=>.int i
def dI (h:Int) (cD:List (List Int)):List fX->Int
 | []=>h
 | r::rs=>match says r h cD with
  | some i=>i
  | none=>dI h cD rs
def topOf (h:Int):List Int->Int
 | []=>h
 | b::r=>d9 b r
def gB (dZ:List (List fX)) (l m h:Int) (cD:List (List Int)):Int:=
 let x:=topOf h (dZ.map (dI h cD))
 let y:=if l>x then l else x
 if m<y then m else y
theorem rC (w:Str):c7 w<3:=by
 unfold c7
 split
 ·decide
 ·split <;> decide
theorem bC {H:Hp} {ds:List PyData} {v:V} (h:At H (.tuple ds) v):∃a xs,v=.ref a/\H a=some (.tup xs)/\ak H ds xs:=by unfold At at h; exact h
theorem ak.bh {H:Hp} {d:PyData} {ds:List PyData} {xs:List V} (h:ak H (d::ds) xs):∃x r,xs=x::r/\At H d x/\ak H ds r:=by unfold ak at h; exact h
theorem ak.mD {H:Hp} {xs:List V} (h:ak H [] xs):xs=[]:=by unfold ak at h; exact h
theorem cI {G:Hp}:∀{cs:List Int} {xs:List V},ak G (cs.map PyData.int) xs->xs=cs.map V.int
 | [],xs,h=>by unfold ak at h; exact h
 | c::cs,xs,h=>by
  obtain⟨x,r,rfl,h1,h2⟩:=ak.bh h
  unfold At at h1
  rw[h1,cI h2]; rfl
theorem bH {H:Hp}:∀cs:List Int,ak H (cs.map .int) (cs.map V.int)
 | []=>ak.nil
 | c::cs=>ak.cons (At.int c) (bH cs)
theorem row_shape {H:Hp} {r:fX} {v:V} (h:At H (pq r) v):∃a,v=.ref a/\H a=some (.tup [.str r.w,.int r.s,.str r.g,.int r.n,.int r.t]):=by
 obtain⟨a,xs,rfl,h1,h2⟩:=bC h
 obtain⟨x1,_,rfl,a1,h2⟩:=ak.bh h2
 obtain⟨x2,_,rfl,a2,h2⟩:=ak.bh h2
 obtain⟨x3,_,rfl,a3,h2⟩:=ak.bh h2
 obtain⟨x4,_,rfl,a4,h2⟩:=ak.bh h2
 obtain⟨x5,_,rfl,a5,h2⟩:=ak.bh h2
 cases ak.mD h2
 unfold At at a1 a2 a3 a4 a5
 subst a1 a2 a3 a4 a5
 exact⟨a,rfl,h1⟩
theorem KH {K:PySem.W.Frag} {js:List Nat} {a:Addr} {xs:List V} {ds:List PyData} {f:Nat->Int} {tl te:TE} {σ:St} {H:Hp} {Q:VK} (hl:∀R:VK,R (.ref a) H->tl σ H R) (ha:H a=some (.tup xs)) (hd:ak H ds xs) (hz:ds.length<=sizeLine)
  (step:∀(i:Nat) x d H',aF H H'->ds[i]?=some d->At H' d x->∀R:VK,(∀cZ,aF H' cZ->R (.int (f i)) cZ)->te (some x::bW js σ) H' R)
  (fin:∀acc H',aF H H'->H' acc=some (.lst (((List.range ds.length).map f).map V.int))->Q (.ref acc) H'):gK js (wO K tl) te σ H Q:=by
 refine hl _ ⟨a,rfl,⟨xs,cG.of ha⟩,fun acc hacc=>?_⟩
 have hlen:=hd.length
 refine⟨fun i m ys H2=>m=ds.length-i/\i<=ds.length/\ys=((List.range i).map f).map V.int/\aF H H2/\H2 acc=some (.lst ys),⟨_,rfl,fQ _,rfl,aK hacc _,az⟩,?_⟩
 rintro i m ys H2 ⟨rfl,hi,rfl,sm,hy⟩
 have ht:cG K H2 a xs:=cG.of (sm _ _ ha)
 by_cases hlt:i<ds.length
 ·refine .inr ⟨⟨xs,xs[i]'(by omega),ht,fM (by omega)⟩,fun x H3 y=>?_⟩
  obtain⟨e,y⟩:=y
  subst e
  obtain⟨d,e1,e2⟩:=hd.get (y xs ht)
  refine step i x d _ sm e1 (e2.mono sm) _ fun H4 s4=>⟨s4 _ _ hy,?_,ds.length-(i+1),by omega,rfl,hlt,?_,?_,az⟩
  ·rw[bR,bR,JC]; omega
  ·rw[List.range_succ]; simp
  ·refine fun b o q=>?_
   have nb:b≠acc:=bN q hacc
   rw[aP nb]
   exact s4 _ _ (sm _ _ q)
 ·have e:i=ds.length:=by omega
  subst e
  exact .inl ⟨⟨xs,ht,by omega⟩,fin _ _ sm hy⟩
def CT (K:PySem.W.Frag) (js:List Nat) (te:TE) (σ:St) (Q:VK) (x:V) (H1:Hp):Prop:=gK js (wO K (fun _ H R=>R x H)) te σ H1 Q
theorem yQ {K:PySem.W.Frag} {js:List Nat} {tl te:TE} {σ:St} {H:Hp} {Q:VK}:gK js (wO K tl) te σ H Q=tl σ H (CT K js te σ Q):=rfl
def Hg:Sp:=fun vs H Q _=>∃(v u:V) (h:Int) (r:fX) (cD:List (List Int)),vs=[v,.int h,u]/\At H (pq r) v/\At H (Ha cD) u/\oW r/\j0 cD/\∀H',aF H H'->Q (ql (says r h cD)) H'
theorem ady.of {v u:V} {h:Int} {r:fX} {cD:List (List Int)} {H:Hp} {Q:VK} {E:XK} (a1:At H (pq r) v) (a2:At H (Ha cD) u) (h1:oW r) (h2:j0 cD) (q:∀H',aF H H'->Q (ql (says r h cD)) H'):Hg ([v,.int h,u]++[]) H Q E:=⟨v,u,h,r,cD,rfl,a1,a2,h1,h2,q⟩
theorem xX {cD:List (List Int)} {w:Str} {s:Nat}:((List.range (cD.take s).length).map fun i=>((cD.take s).getD i []).getD (c7 w) 0).sum=j7 w s cD:=by
 unfold j7
 congr 1
 generalize cD.take s=l
 apply Et
 ·simp
 ·intro i h1 h2
  simp at h1 h2
  simp[fJ,h2]
theorem tG:aV ["row","hands","newest","what","span","sign","number","step","place","total","mark"] ["row","hands","newest"] (aH oZ):=(by walk_at "c")
theorem Fj (F:iW K "row_says" "row_says" oZ f fd) (B:Bi mg) (O:Co K mg):bQ P w K mg base iH (k+1) f fd ["row","hands","newest"] Hg:=by
 refine F.ok tG (by rintro vs H Q E ⟨v,u,h,r,cD,rfl,_⟩; rfl) (fun cdv A outer s H vs Q E hr h=>?_)
 obtain⟨v,u,h,r,cD,rfl,a1,a2,hR,hN,q⟩:=h
 have ND:=tG.nd
 refine⟨_,(aq (cU (pv 0) (bJ (K:=K) (n:=5) rfl rfl (aC (aD (i:=3) ND rfl (by walk_at "o")) (aC (aD (i:=4) ND rfl (by walk_at "o")) (aC (aD (i:=5) ND rfl (by walk_at "o")) (aC (aD (i:=6) ND rfl (by walk_at "o")) (aC (aD (i:=7) ND rfl (by walk_at "o")) bI))))))) (aq (aW (i:=8) ND rfl (by walk_at "o") (mZ (K:=K) rfl PySem.F.plainAttrs_tuple PySem.F.slot_tuple_index PySem.F.type_tuple_index (MT (K:=K) rfl) (JQ (K:=K) rfl O.Wo) (aa (pv 3) aj))) (aq (aW (i:=9) ND rfl (by walk_at "o") (pb (lg rfl) B.sum xN (aa (iw (N':=["triple","place"]) (js:=[8]) rfl (i_ (K:=K) rfl (dh iu (pv 2) eY (cV (pv 4)))) uO.mk1 rfl (by decide) rfl (fun fp s' H'=>(aZ aO (pv 0) (pv 1) (fun _ _=>rfl)))) aj))) (aq (aW (i:=10) ND rfl (by walk_at "o") (aM fC (pv 6) (pv 4))) (aq (dJ (a_ iV (pv 5) (vW O.EACH) (aR _)) (aG (aX (aM vZ (aM du (aM bD (pv 9) (pv 10)) ao) (pv 10)))) bT) (aq (dJ (PW.pt (zP (PW.pt (sr (a_ iV (pv 5) (vW O.OVER) (aR _)) (nQ (a_ jn (pv 9) (pv 10) (aR _))))) (rZ (PW.pt (sr (a_ iV (pv 5) (vW O.UNDER) (aR _)) (nQ (a_ tV (pv 9) (pv 10) (aR _)))))))) (aG (aX (aM bD (pv 1) (pv 7)))) bT) (aG (aX dR)))))))),?_⟩
 obtain⟨a,rfl,h1⟩:=row_shape a1
 obtain⟨b,xs,rfl,h2,h3⟩:=bC a2
 walk_at "rd"
 refine⟨a,_,rfl,cG.of h1,rfl,?_⟩
 walk_at "rd"
 intro aw ho hw
 refine⟨.inr (.inl ⟨rfl,ho⟩),aw,r.w,rfl,hw _,rfl,hR.w,?_⟩
 show gK _ _ _ _ _ _
 rw[yQ]
 walk_at "rd"
 refine⟨b,xs,rfl,h2,fun p H1 s1 e1=>?_⟩
 rw[nu (by omega),rW] at e1
 have h3':ak H1 ((cD.take r.s).map jg) (xs.take r.s):=by rw[vO]; exact(h3.take r.s).mono s1
 have hs4:=hR.s
 have htl:(cD.take r.s).length<=4:=by rw[jj]; omega
 refine KH (a:=p) (f:=fun i=>((cD.take r.s).getD i []).getD (c7 r.w) 0) (fun R hR=>hR) e1 h3' (jB (bw (by rw[bR]; omega))) (fun i x d H' s' ed hx R hR'=>?_) (fun acc H' s' hl=>?_)
 ·rw[gM] at ed
  obtain⟨l,el,rfl⟩:=mX.mp ed
  have l3:l.length=3:=hN.l l (JH (jm el))
  obtain⟨c,ys,rfl,g1,g2⟩:=bC hx
  cases cI g2
  show Tf _ _ _ [some _,some (.int (c7 r.w:Nat))] H' R
  walk_at "rd"
  have hw:=rC r.w
  refine Ix.tup g1 (v:=.int (l.getD (c7 r.w) 0)) (bx (by rw[gM,fM (by omega),fJ,fM (by omega)]; rfl)) ?_
  have:=hR' H' (aF.refl H')
  have eg:(cD.take r.s).getD i []=l:=by rw[fJ,el]; rfl
  rw[eg] at this
  exact this
 ·have sm:=s1.trans s'
  rw[bR] at hl
  refine⟨acc,_,rfl,.inl hl,.inr (by have:=hR.s; omega),?_⟩
  rw[xX]
  have q1:=q H' sm
  unfold says at q1
  refine fW (fun c1=>?_) (fun c1=>?_)
  ·have c1':=yc c1
   rw[aL c1'] at q1
   have h1n:=hR.e c1'
   have hpos:0<r.n*(r.s:Int):=Int.mul_pos (by omega) (by omega)
   have hup:r.n*(r.s:Int)<=1000000000000000000000000000000*4:=Int.mul_le_mul hR.n.2 (by omega) (by omega) (by decide)
   exact⟨⟨hpos,Int.lt_of_le_of_lt hup (by decide)⟩,q1⟩
  ·have c1':=yd c1
   rw[bB c1'] at q1
   generalize j7 r.w r.s cD=tot at q1 ⊢
   generalize r.n*(r.s:Int)=mark at q1 ⊢
   by_cases o1:r.g = "over"
   ·have u1:¬r.g = "under" := by rw[o1]; decide +kernel
    rw[gC o1,aL rfl]
    by_cases o2:mark<tot
    ·rw[gC o2,aL rfl]
     rw[aL (.inl ⟨o1,o2⟩)] at q1; exact q1
    ·rw[gY o2,bB (by decide),gY u1,bB (by decide)]
     rw[bB (fun z=>by rcases z with z | z; exact o2 z.2; exact u1 z.1)] at q1; exact q1
   ·rw[gY o1,bB (by decide)]
    by_cases u1:r.g = "under"
    ·rw[gC u1,aL rfl]
     by_cases o2:tot<mark
     ·rw[gC o2,aL rfl]
      rw[aL (.inr ⟨u1,o2⟩)] at q1; exact q1
     ·rw[gY o2,bB (by decide)]
      rw[bB (fun z=>by rcases z with z | z; exact o1 z.1; exact o2 z.2)] at q1; exact q1
    ·rw[gY u1,bB (by decide)]
     rw[bB (fun z=>by rcases z with z | z; exact o1 z.1; exact u1 z.1)] at q1; exact q1
def W7:Sp:=fun vs H Q _=>∃(v u:V) (h:Int) (rs:List fX) (cD:List (List Int)),vs=[v,.int h,u]/\At H (qp rs) v/\At H (Ha cD) u/\(∀r∈rs,oW r)/\j0 cD/\∀H',aF H H'->Q (.int (dI h cD rs)) H'
theorem Rw.of {v u:V} {h:Int} {rs:List fX} {cD:List (List Int)} {H:Hp} {Q:VK} {E:XK} (a1:At H (qp rs) v) (a2:At H (Ha cD) u) (h1:∀r∈rs,oW r) (h2:j0 cD) (q:∀H',aF H H'->Q (.int (dI h cD rs)) H'):W7 ([v,.int h,u]++[]) H Q E:=⟨v,u,h,rs,cD,rfl,a1,a2,h1,h2,q⟩
theorem qb:aV ["rule","hands","newest","row","said"] ["rule","hands","newest"] (aH mO):=(by walk_at "c")
theorem B_ (F:iW K "rule_wish" "rule_wish" mO f fd) (pN:Ct P w K mg base k "row_says" ["row","hands","newest"] Hg):bQ P w K mg base iH (k+1) f fd ["rule","hands","newest"] W7:=by
 refine F.ok qb (by rintro vs H Q E ⟨v,u,h,r,cD,rfl,_⟩; rfl) (fun cdv A outer s H vs Q E hr h=>?_)
 obtain⟨v,u,h,rs,cD,rfl,a1,a2,hR,hN,q⟩:=h
 have ND:=qb.nd
 refine⟨_,(aq (g8 PassesOwn.never rfl (i_ (K:=K) rfl (pv 0)) (aD (i:=3) ND rfl (by walk_at "o")) (aq (aW (i:=4) ND rfl (by walk_at "o") (pf pN hr (aa (pv 3) (aa (pv 1) (aa (pv 2) aj))))) (aG (dJ (a_ jH (pv 4) dR (aR _)) (aG (aX (pv 4))) bT)))) (aG (aX (pv 1)))),?_⟩
 obtain⟨a,xs,rfl,h1,h2⟩:=bC a1
 have hlen:=h2.length
 rw[bR] at hlen
 walk_at "rd"
 rw[uU]
 walk_at "rd"
 refine TK.of h1 (fun n σ H'=>∃o1 o2,σ=[some (.ref a),some (.int h),some u,o1,o2]/\aF H H'/\dI h cD (rs.drop n)=dI h cD rs) ⟨_,_,rfl,aF.refl H,rfl⟩ (fun n σ H' _ ⟨o1,o2,_,sm,_⟩=>sm _ _ h1) ?_ ?_
 ·rintro n x σ H1 hx ⟨o1,o2,rfl,sm,e⟩
  obtain⟨d,e1,e2⟩:=h2.get hx
  rw[gM] at e1
  obtain⟨r,er,rfl⟩:=mX.mp e1
  have hn:n<rs.length:=by
   obtain⟨z,_⟩:=iQ.mp er; exact z
  have ed:rs.drop n=r::rs.drop (n+1):=by
   rw[Qu hn]
   obtain⟨z,ez⟩:=iQ.mp er
   rw[ez]
  rw[ed,dI] at e
  walk_at "rd"
  refine ady.of (e2.mono sm) (a2.mono sm) (hR r (jm er)) hN fun H2 s2=>?_
  have s2:=sm.trans s2
  cases es:says r h cD with
  | none=>
   rw[es] at e
   refine⟨trivial,?_⟩
   exact⟨_,_,rfl,s2,e⟩
  | some i=>
   rw[es] at e
   refine⟨trivial,?_⟩
   have e:i=dI h cD rs:=e
   show Q (.int i) H2
   rw[e]; exact q H2 s2
 ·rintro σ H1 ⟨o1,o2,rfl,sm,e⟩
  walk_at "rd"
  rw[hlen,zM] at e
  have e:h=dI h cD rs:=e
  rw[e]
  have:=q H1 sm
  rw[<- e] at this ⊢
  exact this
def V6 (d0 d1 d3 d4 d5:PyData) (l m:Int) (dZ:List (List fX)):PyData:=.tuple [d0,d1,.tuple [.int l,.int m],d3,d4,d5,Ho dZ]
def Pk:Sp:=fun vs H Q _=>∃(v u:V) (h l m:Int) (d0 d1 d3 d4 d5:PyData) (dZ:List (List fX)) (cD:List (List Int)),vs=[v,.int h,u]/\At H (V6 d0 d1 d3 d4 d5 l m dZ) v/\At H (Ha cD) u/\(∀rs∈dZ,∀r∈rs,oW r)/\dZ.length<=100/\j0 cD /\
 ∀H',aF H H'->Q (.int (gB dZ l m h cD)) H'
theorem Jt:aV ["post","hands","newest","least","most","wishes","wished"] ["post","hands","newest"] (aH Hl):=(by walk_at "c")
theorem Ul (F:iW K "wish" "wish" Hl f fd) (B:Bi mg) (nF:Ct P w K mg base k "rule_wish" ["rule","hands","newest"] W7):bQ P w K mg base iH (k+1) f fd ["post","hands","newest"] Pk:=by
 refine F.ok Jt (by rintro vs H Q E ⟨v,u,h,l,m,d0,d1,d3,d4,d5,dZ,cD,rfl,_⟩; rfl) (fun cdv A outer s H vs Q E hr h=>?_)
 obtain⟨v,u,h,l,m,d0,d1,d3,d4,d5,dZ,cD,rfl,a1,a2,hR,hn,hN,q⟩:=h
 have ND:=Jt.nd
 refine⟨_,(aq (cU (aZ aO (pv 0) ao (fun _ _=>rfl)) (bJ (K:=K) (n:=2) rfl rfl (aC (aD (i:=3) ND rfl (by walk_at "o")) (aC (aD (i:=4) ND rfl (by walk_at "o")) bI)))) (aq (JM (i:=5) ND rfl (by walk_at "o") (N':=["rule","hands","newest"]) (js:=[1,2]) rfl (i_ (K:=K) rfl (aZ aO (pv 0) ao (fun _ _=>rfl))) uO.mk2 rfl (by decide) rfl (fun fp s' H'=>(pf nF hr (aa (pv 0) (aa (pv 1) (aa (pv 2) aj)))))) (aq (aW (i:=6) ND rfl (by walk_at "o") (JT rfl B.max (aa (pv 5) aj) (pv 1))) (aG (aX (pb (dU rfl) B.min il (aa (pb (e_ rfl) B.max iT (aa (pv 6) (aa (pv 3) aj))) (aa (pv 4) aj)))))))),?_⟩
 obtain⟨a,xs,rfl,h1,h2⟩:=bC a1
 obtain⟨x0,_,rfl,b0,h2⟩:=ak.bh h2
 obtain⟨x1,_,rfl,b1,h2⟩:=ak.bh h2
 obtain⟨x2,_,rfl,b2,h2⟩:=ak.bh h2
 obtain⟨x3,_,rfl,b3,h2⟩:=ak.bh h2
 obtain⟨x4,_,rfl,b4,h2⟩:=ak.bh h2
 obtain⟨x5,_,rfl,b5,h2⟩:=ak.bh h2
 obtain⟨x6,_,rfl,b6,h2⟩:=ak.bh h2
 cases ak.mD h2
 obtain⟨c,ys,rfl,g1,g2⟩:=bC b2
 obtain⟨y0,_,rfl,k0,g2⟩:=ak.bh g2
 obtain⟨y1,_,rfl,k1,g2⟩:=ak.bh g2
 cases ak.mD g2
 unfold At at k0 k1
 subst k0 k1
 obtain⟨e,zs,rfl,m1,m2⟩:=bC b6
 walk_at "rd"
 refine Ix.tup h1 (bx (j:=2) rfl) ⟨c,_,rfl,cG.of g1,rfl,?_⟩
 walk_at "rd"
 rw[yQ]
 walk_at "rd"
 refine Ix.tup h1 (bx (j:=6) rfl) ?_
 refine KH (a:=e) (f:=fun i=>dI h cD (dZ.getD i [])) (fun R hR=>hR) m1 m2 (jB (bw (by rw[bR]; omega))) (fun i x d H' s' ed hx R hR'=>?_) (fun acc H' s' hl=>?_)
 ·rw[gM] at ed
  obtain⟨rs,el,rfl⟩:=mX.mp ed
  show pW _ _ _ _ [some x,some (.int h),some u] H' R
  walk_at "rd"
  refine Rw.of hx (a2.mono s') (hR rs (jm el)) hN fun H2 s2=>?_
  have:=hR' H2 s2
  have eg:dZ.getD i []=rs:=by rw[fJ,el]; rfl
  rw[eg] at this
  exact this
 ·rw[bR] at hl
  have el:(List.range dZ.length).map (fun i=>dI h cD (dZ.getD i []))=dZ.map (dI h cD):=by
   apply Et
   ·simp
   ·intro i h1 h2
    simp at h1 h2
    simp[fJ,h2]
  rw[el] at hl
  have q1:=q H' s'
  unfold gB topOf at q1
  refine⟨acc,_,rfl,hl,fun en=>?_,fun b r er=>?_⟩
  ·rw[en] at q1
   exact q1
  ·rw[er] at q1
   exact q1
def Jp:Sp:=fun vs H Q _=>∃(v x:V) (a:Addr) (r:Int) (b:Addr) (ns:List Int) (u:List V),v=.ref a/\vs=[v]/\H a=some (.tup (x::.int r::.ref b::u))/\H b=some (.tup (ns.map V.int))/\Q (.int (r+ns.sum)) H
theorem tK:aV ["stand"] ["stand"] (aH ph):=(by walk_at "c")
theorem Fo (F:iW K "hands_of" "hands_of" ph f fd) (B:Bi mg):bQ P w K mg base iH (k+1) f fd ["stand"] Jp:=by
 refine F.ok tK (by rintro vs H Q E ⟨v,x,a,r,b,ns,u,_,rfl,_⟩; rfl) (fun cdv A outer s H vs Q E hr h=>?_)
 obtain⟨v,x,a,r,b,ns,u,rfl,rfl,h1,h2,q⟩:=h
 have ND:=tK.nd
 refine⟨_,(aG (aX (aM bD (aZ aO (pv 0) ao (fun _ _=>rfl)) (pb (lg rfl) B.sum xN (aa (aZ aO (pv 0) ao (fun _ _=>rfl)) aj))))),?_⟩
 walk_at "rd"
 refine⟨a,_,1,_,rfl,rfl,.inr h1,bx (j:=1) rfl,?_⟩
 refine⟨a,_,2,_,rfl,rfl,.inr h1,bx (j:=2) rfl,?_⟩
 refine⟨b,ns,rfl,.inr h2,?_⟩
 exact⟨_,_,rfl,rfl,q⟩
theorem Rt {X:Cx}:aaT X (fun o i H Q=>∃(p:Addr) (xs:List V) (j:Nat) (v:V),o=.ref p/\i=.int j/\H p=some (.lst xs)/\xs[j]?=some v/\Q v H):=by
 intro pins s σ H o i ov iv Q I ro ri h
 obtain⟨p,xs,j,v,rfl,rfl,hp,hv,q⟩:=h
 cases ro
 obtain⟨t,rfl⟩:=ri
 obtain⟨its,r,pl,hz⟩:=I.list (dX.of (K:=X.K) hp)
 obtain⟨w,ew,Xb⟩:=r.get hv
 have hl:=r.length
 have hn:=wH
 have hj:j<xs.length:=by obtain⟨z,_⟩:=iQ.mp hv; exact z
 exact wpAny_getItem_list pl.isList (by omega) (by omega) (by simpa using ew) ⟨v,H,I,Xb,q⟩
theorem uL {n j:Nat} (h:j<n):Rh n (j:Int)=some j:=by
 unfold Rh
 rw[aL (by omega),aL (by omega),rW]
structure cJ where
 w:Int
 r:Int
 cs:List Int
 s:Int
 t:Int
 us:List (List Int)
def lC (x:cJ):PyData:=.tuple [.int x.w,.int x.r,.tuple (x.cs.map .int),.int x.s,.int x.t,.tuple (x.us.map jg)]
structure eV (x:cJ):Prop where
 c:x.cs.length=5
 u:x.us.length=3
 l:∀y∈x.us,y.length=3
structure cO where
 p:Int
 m:Int
 lo:Int
 hi:Int
 a:Nat
 e:Int
 u:Int
 d:Int
 dZ:List (List fX)
def gZ (x:cO):PyData:=V6 (.int x.p) (.int x.m) (.int x.a) (.int x.e) (.tuple [.int x.u,.int x.d]) x.lo x.hi x.dZ
structure iU (x:cO):Prop where
 a:x.a<=4
 p:0<=x.p/\x.p<=1000000000000000000
 n:x.dZ.length<=100
 g:∀rs∈x.dZ,∀r∈rs,oW r
theorem kJ {H:Hp} {x:cO} {v:V} (h:At H (gZ x) v):∃a b c d,v=.ref a/\H a=some (.tup [.int x.p,.int x.m,.ref b,.int x.a,.int x.e,.ref c,.ref d])/\H c=some (.tup [.int x.u,.int x.d]):=by
 obtain⟨a,xs,rfl,h1,h2⟩:=bC h
 obtain⟨x0,_,rfl,b0,h2⟩:=ak.bh h2
 obtain⟨x1,_,rfl,b1,h2⟩:=ak.bh h2
 obtain⟨x2,_,rfl,b2,h2⟩:=ak.bh h2
 obtain⟨x3,_,rfl,b3,h2⟩:=ak.bh h2
 obtain⟨x4,_,rfl,b4,h2⟩:=ak.bh h2
 obtain⟨x5,_,rfl,b5,h2⟩:=ak.bh h2
 obtain⟨x6,_,rfl,b6,h2⟩:=ak.bh h2
 cases ak.mD h2
 unfold At at b0 b1 b3 b4
 subst b0 b1 b3 b4
 obtain⟨b,ys,rfl,_,_⟩:=bC b2
 obtain⟨c,zs,rfl,g1,g2⟩:=bC b5
 obtain⟨d,ws,rfl,_,_⟩:=bC b6
 obtain⟨y0,_,rfl,k0,g2⟩:=ak.bh g2
 obtain⟨y1,_,rfl,k1,g2⟩:=ak.bh g2
 cases ak.mD g2
 unfold At at k0 k1
 subst k0 k1
 exact⟨a,b,c,d,rfl,h1,g1⟩
theorem eX {H:Hp} {x:cJ} {v:V} (h:At H (lC x) v):∃a b c,v=.ref a/\H a=some (.tup [.int x.w,.int x.r,.ref b,.int x.s,.int x.t,.ref c])/\H b=some (.tup (x.cs.map V.int))/\At H (.tuple (x.us.map jg)) (.ref c):=by
 obtain⟨a,xs,rfl,h1,h2⟩:=bC h
 obtain⟨x0,_,rfl,b0,h2⟩:=ak.bh h2
 obtain⟨x1,_,rfl,b1,h2⟩:=ak.bh h2
 obtain⟨x2,_,rfl,b2,h2⟩:=ak.bh h2
 obtain⟨x3,_,rfl,b3,h2⟩:=ak.bh h2
 obtain⟨x4,_,rfl,b4,h2⟩:=ak.bh h2
 obtain⟨x5,_,rfl,b5,h2⟩:=ak.bh h2
 cases ak.mD h2
 unfold At at b0 b1 b3 b4
 subst b0 b1 b3 b4
 obtain⟨b,ys,rfl,g1,g2⟩:=bC b2
 cases cI g2
 obtain⟨c,zs,rfl,_,_⟩:=bC b5
 exact⟨a,b,c,rfl,h1,g1,b5⟩
def lD (e s:Int):Int:=if s+1<e then s+1 else 0
def fV (e s t:Int):Bool:=if s+1<e then false else decide (t=0)
def Ji:Sp:=fun vs H Q _=>∃(v:V) (x:cO) (s t:Int),vs=[v,.int s,.int t]/\At H (gZ x) v/\∀p H',aF H H'->H' p=some (.tup [.int (lD x.e s),.bl (fV x.e s t)])->Q (.ref p) H'
theorem jF:aV ["post","since","rest","every"] ["post","since","rest"] (aH gP):=(by walk_at "c")
theorem qF (F:iW K "since_and_look" "since_and_look" gP f fd):bQ P w K mg base iH (k+1) f fd ["post","since","rest"] Ji:=by
 refine F.ok jF (by rintro vs H Q E ⟨v,x,s,t,rfl,_⟩; rfl) (fun cdv A outer s H vs Q E hr h=>?_)
 obtain⟨v,x,sn,t,rfl,a1,q⟩:=h
 have ND:=jF.nd
 refine⟨_,(aq (aW (i:=3) ND rfl (by walk_at "o") (aZ aO (pv 0) ao (fun _ _=>rfl))) (aq (dJ (a_ tV (aM bD (pv 1) ao) (pv 3) (aR _)) (aG (aX (bj (aa (aM bD (pv 1) ao) (aa qz aj))))) bT) (aG (aX (bj (aa ao (aa (dC iV (pv 2) ao (aR _)) aj))))))),?_⟩
 obtain⟨a,b,c,d,rfl,h1,h2⟩:=kJ a1
 walk_at "rd"
 refine Ix.tup h1 (bx (j:=4) rfl) ?_
 walk_at "rd"
 refine fW (fun c1=>?_) (fun c1=>?_)
 ·have c1':=yc c1
  refine⟨(by decide),fun p H1 f1 s1 e1=>q p H1 s1 ?_⟩
  unfold lD fV
  rw[aL c1',aL c1']; exact e1
 ·have c1':=yd c1
  refine⟨(by decide),fun p H1 f1 s1 e1=>q p H1 s1 ?_⟩
  unfold lD fV
  rw[bB c1',bB c1']; exact e1
def qO (x:cO) (h fr:Int) (cD:List (List Int)):Int:=if fr<gB x.dZ x.lo x.hi h cD-h then fr else gB x.dZ x.lo x.hi h cD-h
def DQ:Sp:=fun vs H Q _=>∃(v u:V) (x:cO) (h fr:Int) (cD:List (List Int)),vs=[v,.int h,u,.int fr]/\At H (gZ x) v/\At H (Ha cD) u/\iU x/\j0 cD/\∀H',aF H H'->Q (.int (qO x h fr cD)) H'
theorem qi:aV ["post","hands","newest","free"] ["post","hands","newest","free"] (aH mU):=(by walk_at "c")
theorem Ce (F:iW K "change_of" "change_of" mU f fd) (B:Bi mg) (Iw:Ct P w K mg base k "wish" ["post","hands","newest"] Pk):bQ P w K mg base iH (k+1) f fd ["post","hands","newest","free"] DQ:=by
 refine F.ok qi (by rintro vs H Q E ⟨v,u,x,h,fr,cD,rfl,_⟩; rfl) (fun cdv A outer s H vs Q E hr h=>?_)
 obtain⟨v,u,x,h,fr,cD,rfl,a1,a2,hP,hN,q⟩:=h
 have ND:=qi.nd
 refine⟨_,(aG (aX (pb (dU rfl) B.min il (aa (aM du (pf Iw hr (aa (pv 0) (aa (pv 1) (aa (pv 2) aj)))) (pv 1)) (aa (pv 3) aj))))),?_⟩
 walk_at "rd"
 refine⟨v,u,h,x.lo,x.hi,_,_,_,_,_,x.dZ,cD,rfl,a1,a2,hP.g,hP.n,hN,fun H1 s1=>?_⟩
 walk_at "rd"
 exact q H1 s1
def aY:List Int->Int->List Int×Int
 | [],n=>([],n)
 | c::cs,n=>((c-(if(aY cs n).2<c then(aY cs n).2 else c))::(aY cs n).1,(aY cs n).2-(if(aY cs n).2<c then(aY cs n).2 else c))
theorem lO:∀(cs:List Int) (n:Int),(aY cs n).1.length=cs.length
 | [],_=>rfl
 | c::cs,n=>by rw[aY,jD,jD,lO cs n]
def Py:Sp:=fun vs H Q _=>∃(r n:Int) (b:Addr) (cs:List Int),vs=[.int r,.ref b,.int n]/\H b=some (.tup (cs.map V.int))/\cs.length<=100/\∀p b' H',aF H H'->H' p=some (.tup [.int (r-(aY cs n).2),.ref b'])->H' b'=some (.tup ((aY cs n).1.map V.int))->Q (.ref p) H'
theorem p_:aV ["ready","called","many","left","place","gone"] ["ready","called","many"] (aH mL):=(by walk_at "c")
theorem BZ (F:iW K "sent_home" "sent_home" mL f fd) (B:Bi mg):bQ P w K mg base iH (k+1) f fd ["ready","called","many"] Py:=by
 refine F.ok p_ (by rintro vs H Q E ⟨r,n,b,cs,rfl,_⟩; rfl) (fun cdv A outer s H vs Q E hr h=>?_)
 obtain⟨r,n,b,cs,rfl,h1,hlen,q⟩:=h
 have ND:=p_.nd
 refine⟨_,(aq (aW (i:=3) ND rfl (by walk_at "o") (pt (sW) B.list jd (aa (pv 1) aj))) (aq (g8 PassesOwn.never rfl (Xn B.reversed B.range (aa (pb (dW (K:=K) rfl) B.len jy (aa (pv 3) aj)) aj)) (aD (i:=4) ND rfl (by walk_at "o")) (aq (aW (i:=5) ND rfl (by walk_at "o") (pb (dU rfl) B.min il (aa (aZ aO (pv 3) (pv 4) (fun _ _=>rfl)) (aa (pv 2) aj)))) (aq (T9 (pv 3) (pv 4) Rt (pv 5) Ia set_list) (aG (vU (i:=2) ND rfl (by walk_at "o") (pv 5) Ia))))) (aG (aX (bj (aa (aM du (pv 0) (pv 2)) (aa (pt (cM) B.tuple cH (aa (pv 3) aj)) aj))))))),?_⟩
 walk_at "rd"
 refine⟨b,_,rfl,h1,fun p1 f1=>?_⟩
 have s1:=aK f1 (HO.lst (cs.map V.int))
 have e1:upd H p1 (HO.lst (cs.map V.int)) p1=some (.lst (cs.map V.int)):=az
 generalize upd H p1 (HO.lst (cs.map V.int))=H1 at s1 e1 ⊢
 rw[Pa]
 walk_at "rd"
 refine⟨p1,_,rfl,.inl (dX.of e1),?_⟩
 rw[bR]
 refine VK'.of (n:=cs.length) rfl (by omega) (fun i σ H'=>∃o4 o5:Option V,σ=[some (.int r),some (.ref b),some (.int (aY (cs.drop (cs.length-i)) n).2),some (.ref p1),o4,o5]/\H' p1=some (.lst ((cs.take (cs.length-i)++(aY (cs.drop (cs.length-i)) n).1).map V.int))/\aF H H')
  ⟨_,_,by rw[Nat.sub_zero,zM]; rfl,by rw[Nat.sub_zero,zM,pC]; simpa[aY] using e1,s1⟩ ?_ ?_
 ·rintro i σ H2 hi ⟨o4,o5,rfl,h2,s2⟩
  obtain⟨j,ej⟩:∃j:Nat,cs.length-i=j+1:=⟨cs.length-i-1,by omega⟩
  have ej2:cs.length-(i+1)=j:=by omega
  have ei:(cs.length:Int)-1-(i:Nat)=(j:Nat):=by omega
  rw[ej] at h2
  rw[ei,ej,ej2]
  have hj:j<cs.length:=by omega
  have dj:cs.drop j=cs[j]::cs.drop (j+1):=Qu hj
  have tj:cs.take (j+1)=cs.take j++[cs[j]]:=by rw[Bw,fM hj]; rfl
  rw[dj,aY]
  generalize aY (cs.drop (j+1)) n=gh at h2 ⊢
  rw[tj] at h2
  generalize cs[j]=cj at h2 ⊢
  have lt:(cs.take j).length=j:=by rw[jj]; omega
  have gj:((cs.take j++[cj]++gh.1).map V.int)[j]?=some (.int cj):=by
   rw[gM,vL,vM (by omega),lt,vI]; rfl
  walk_at "rd"
  refine Ix.lst h2 (bx gj) ?_
  walk_at "rd"
  refine⟨p1,_,j,_,rfl,rfl,h2,gj,?_⟩
  walk_at "rd"
  refine⟨p1,_,_,j,rfl,rfl,h2,uL (by rw[bR,fP,fP,lt]; show j<j+1+_; omega),?_⟩
  refine⟨_,rfl,_,_,rfl,rfl,_,_,rfl,?_,fun z o w=>?_⟩
  ·rw[az]
   congr 2
   have e:cs.take j++[cj]++gh.1=cs.take j++(cj::gh.1):=by simp
   rw[e,jC,jC,List.set_append_right _ _ (by rw[bR]; omega),bR,lt,vI]
   rfl
  ·rw[aP (bN w f1)]
   exact s2 _ _ w
 ·rintro σ H2 ⟨o4,o5,rfl,h2,s2⟩
  rw[vI,List.drop_zero,List.take_zero,Hs] at h2
  rw[vI,List.drop_zero]
  walk_at "rd"
  refine⟨p1,_,rfl,h2,fun p3 f3=>?_⟩
  have s3:=aK f3 (HO.tup ((aY cs n).1.map V.int))
  have e3:upd H2 p3 (HO.tup ((aY cs n).1.map V.int)) p3=some (.tup ((aY cs n).1.map V.int)):=az
  generalize upd H2 p3 (HO.tup ((aY cs n).1.map V.int))=H3 at s3 e3 ⊢
  refine⟨(by decide),fun p4 H4 f4 s4 e4=>?_⟩
  exact q p4 p3 H4 (s2.trans (s3.trans s4)) e4 (s4 _ _ e3)
def cP (x:cO) (st:cJ) (ch:Int):cJ:=
 if ch=0 then st else if 0<ch then { st with cs:=st.cs.take x.a++[st.cs.getD x.a 0+ch]++st.cs.drop (x.a+1),t:=x.u }
 else { st with r:=st.r-(aY st.cs (-ch)).2,cs:=(aY st.cs (-ch)).1,t:=x.d }
def Hf:Sp:=fun vs H Q _=>∃(v u:V) (x:cO) (st:cJ) (ch:Int),vs=[v,u,.int ch]/\At H (gZ x) v/\At H (lC st) u/\iU x/\eV st/\∀u' H',aF H H'->At H' (lC (cP x st ch)) u'->Q u' H'
theorem mF:aV ["post","stand","change","late","rests","wait","ready","called","since","rest","seen"] ["post","stand","change"] (aH jK):=(by walk_at "c")
theorem wg (F:iW K "with_change" "with_change" jK f fd) (B:Bi mg) (nD:Ct P w K mg base k "sent_home" ["ready","called","many"] Py):bQ P w K mg base iH (k+1) f fd ["post","stand","change"] Hf:=by
 refine F.ok mF (by rintro vs H Q E ⟨v,u,x,st,ch,rfl,_⟩; rfl) (fun cdv A outer s H vs Q E hr h=>?_)
 obtain⟨v,u,x,st,ch,rfl,a1,a2,hP,hS,q⟩:=h
 have ND:=mF.nd
 refine⟨_,(aq (dJ (a_ iV (pv 2) ao (aR _)) (aG (aX (pv 1))) bT) (aq (pF (i:=3) (j:=4) rfl ND rfl rfl (by decide) rfl rfl (aa (aZ aO (pv 0) ao (fun _ _=>rfl)) (aa (aZ aO (pv 0) ao (fun _ _=>rfl)) aj)) (by rfl)) (aq (cU (pv 1) (bJ (K:=K) (n:=6) rfl rfl (aC (aD (i:=5) ND rfl (by walk_at "o")) (aC (aD (i:=6) ND rfl (by walk_at "o")) (aC (aD (i:=7) ND rfl (by walk_at "o")) (aC (aD (i:=8) ND rfl (by walk_at "o")) (aC (aD (i:=9) ND rfl (by walk_at "o")) (aC (aD (i:=10) ND rfl (by walk_at "o")) bI)))))))) (aq (dJ (a_ jn (pv 2) ao (aR _)) (aq (aW (i:=7) ND rfl (by walk_at "o") (aM uA (aM uA (dh iu (pv 7) eY (cV (pv 3))) (bj (aa (aM bD (aZ aO (pv 7) (pv 3) (fun _ _=>rfl)) (pv 2)) aj))) (dh iu (pv 7) (cV (aM bD (pv 3) ao)) eY))) (aG (aW (i:=9) ND rfl (by walk_at "o") (aZ aO (pv 4) ao (fun _ _=>rfl))))) (aq (cU (pf nD hr (aa (pv 6) (aa (pv 7) (aa (Ff uR (pv 2)) aj)))) (bJ (K:=K) (n:=2) rfl rfl (aC (aD (i:=6) ND rfl (by walk_at "o")) (aC (aD (i:=7) ND rfl (by walk_at "o")) bI)))) (aG (aW (i:=9) ND rfl (by walk_at "o") (aZ aO (pv 4) ao (fun _ _=>rfl)))))) (aG (aX (bj (aa (pv 5) (aa (pv 6) (aa (pv 7) (aa (pv 8) (aa (pv 9) (aa (pv 10) aj))))))))))))),?_⟩
 walk_at "rd"
 refine fW (fun c1=>?_) (fun c1=>?_)
 ·have:=q u H (aF.refl H)
  unfold cP at this
  rw[aL (yc c1)] at this
  exact this a2
 have c1':=yd c1
 obtain⟨pa,pb,pc,pd,rfl,p1,p2⟩:=kJ a1
 obtain⟨sa,sb,sc,rfl,g1,g2,g3⟩:=eX a2
 have ha4:=hP.a
 have hc5:=hS.c
 refine Ix.tup p1 (bx (j:=3) rfl) (Ix.tup p1 (bx (j:=5) rfl) ⟨_,_,rfl,?_⟩)
 refine⟨sa,_,rfl,cG.of g1,rfl,?_⟩
 walk_at "rd"
 refine fW (fun c2=>?_) (fun c2=>?_)
 ·have c2':=yc c2
  have ga:(st.cs.map V.int)[x.a]?=some (.int (st.cs.getD x.a 0)):=by
   rw[gM,fM (by omega),fJ,fM (by omega)]; rfl
  refine⟨sb,_,rfl,g2,fun p3 H3 s3 e3=>?_⟩
  rw[nu (by omega),rW] at e3
  refine Ix.tup (s3 _ _ g2) (bx ga) ?_
  walk_at "rd"
  refine⟨(by decide),fun p4 H4 f4 s4 e4=>?_⟩
  refine⟨p3,p4,_,_,rfl,rfl,s4 _ _ e3,e4,jB (bw (by simp; omega)),fun p5 H5 s5 e5=>?_⟩
  walk_at "rd"
  have s35:=s3.trans (s4.trans s5)
  refine⟨sb,_,rfl,s35 _ _ g2,fun p6 H6 s6 e6=>?_⟩
  rw[nC (by omega)] at e6
  refine⟨p5,p6,_,_,rfl,rfl,s6 _ _ e5,e6,jB (bw (by simp; omega)),fun p7 H7 s7 e7=>?_⟩
  have s37:=s35.trans (s6.trans s7)
  walk_at "rd"
  refine Ix.tup (s37 _ _ p2) (bx (j:=0) rfl) ⟨(by decide),fun p8 H8 f8 s8 e8=>?_⟩
  have ZV:=s37.trans s8
  refine q (.ref p8) H8 ZV ?_
  unfold cP
  rw[bB c1',aL c2']
  refine At.tup e8 (ak.cons (At.int _) (ak.cons (At.int _) (ak.cons (At.tup (s8 _ _ e7) ?_) (ak.cons (At.int _) (ak.cons (At.int _) (ak.cons (g3.mono ZV) ak.nil))))))
  have e:(((x.a:Int)+1).toNat)=x.a+1:=by omega
  rw[e]
  have:=bH (H:=H8) (st.cs.take x.a++[st.cs.getD x.a 0+ch]++st.cs.drop (x.a+1))
  simpa using this
 ·have c2':=yd c2
  refine⟨st.r,-ch,sb,st.cs,rfl,g2,by omega,fun p3 b3 H3 s3 e3 e4=>?_⟩
  refine⟨p3,_,rfl,cG.of e3,rfl,?_⟩
  walk_at "rd"
  refine Ix.tup (s3 _ _ p2) (bx (j:=1) rfl) ⟨(by decide),fun p8 H8 f8 s8 e8=>?_⟩
  have ZV:=s3.trans s8
  refine q (.ref p8) H8 ZV ?_
  unfold cP
  rw[bB c1',bB (by omega)]
  exact At.tup e8 (ak.cons (At.int _) (ak.cons (At.int _) (ak.cons (At.tup (s8 _ _ e4) (bH _)) (ak.cons (At.int _) (ak.cons (At.int _) (ak.cons (g3.mono ZV) ak.nil))))))
def bL (x:cO) (st:cJ) (come:Int):Int:=if(if 0>x.m-st.w then 0 else x.m-st.w)<come then(if 0>x.m-st.w then 0 else x.m-st.w) else come
def cB (st:cJ):Int:=st.r+st.cs.getD 0 0
def fu (x:cO) (st:cJ) (come:Int):Int:=if cB st*x.p<st.w+bL x st come then cB st*x.p else st.w+bL x st come
def cg (x:cO) (st:cJ) (come:Int):List (List Int):=[come,fu x st come,st.w+bL x st come-fu x st come]::st.us
def cW (x:cO) (st:cJ) (come:Int):cJ:=⟨st.w+bL x st come-fu x st come,cB st,st.cs.drop 1++[0],lD x.e st.s,if 0>st.t-1 then 0 else st.t-1,(cg x st come).take 3⟩
def lY (x:cO) (st:cJ) (come fr:Int):Int:=if fV x.e st.s st.t=true then qO x (cB st+(st.cs.drop 1++[0]).sum) fr (cg x st come) else 0
def Hk:Sp:=fun vs H Q _=>∃(v u:V) (x:cO) (st:cJ) (come fr:Int),vs=[v,u,.int come,.int fr]/\At H (gZ x) v/\At H (lC st) u/\iU x/\eV st /\
 ∀p u' H',aF H H'->At H' (lC (cP x (cW x st come) (lY x st come fr))) u'->H' p=some (.tup [u',.int (fu x st come),.int (come-bL x st come),.int (lY x st come fr)])->Q (.ref p) H'
theorem Jv:aV ["post","stand","come","free","pace","room","wait","ready","called","since","rest","seen","taken","done","newest","looks","moved","change"] ["post","stand","come","free"] (aH Hn):=(by walk_at "c")
theorem Fy {x:cO} {st:cJ} {come:Int} (h:eV st):eV (cW x st come):=by
 refine⟨?_,?_,fun y hy=>?_⟩
 ·show(st.cs.drop 1++[0]).length=5
  have:=h.c
  simp; omega
 ·show((cg x st come).take 3).length=3
  have:=h.u
  unfold cg
  simp; omega
 ·have hy:=JH hy
  unfold cg at hy
  rcases b7.mp hy with z | z
  ·rw[z]; rfl
  ·exact h.l y z
theorem Uo {T:Addr} {tk:Tok} (F:xR K "beat" "beat" Hn f fd T 12 tk) (B:Bi mg) (O:Co K mg) (ik:Ct P w K mg base k "since_and_look" ["post","since","rest"] Ji) (nH:Ct P w K mg base k "change_of" ["post","hands","newest","free"] DQ) (pO:Ct P w K mg base k "hands_of" ["stand"] Jp)
  (jU:Ct P w K mg base k "with_change" ["post","stand","change"] Hf):bQ P w K mg base iH (k+1) f fd ["post","stand","come","free"] Hk:=by
 refine F.ok Jv (by rintro vs H Q E ⟨v,u,x,st,come,fr,rfl,_⟩; rfl) (fun cdv A outer s H vs Q E hr h=>?_)
 obtain⟨v,u,x,st,come,fr,rfl,a1,a2,hP,hS,q⟩:=h
 have ND:=Jv.nd
 refine⟨_,(aq (cU (dh iu (pv 0) eY (cV ao)) (bJ (K:=K) (n:=2) rfl rfl (aC (aD (i:=4) ND rfl (by walk_at "o")) (aC (aD (i:=5) ND rfl (by walk_at "o")) bI)))) (aq (cU (pv 1) (bJ (K:=K) (n:=6) rfl rfl (aC (aD (i:=6) ND rfl (by walk_at "o")) (aC (aD (i:=7) ND rfl (by walk_at "o")) (aC (aD (i:=8) ND rfl (by walk_at "o")) (aC (aD (i:=9) ND rfl (by walk_at "o")) (aC (aD (i:=10) ND rfl (by walk_at "o")) (aC (aD (i:=11) ND rfl (by walk_at "o")) bI)))))))) (aq (vU (i:=7) ND rfl (by walk_at "o") (aZ aO (pv 8) ao (fun _ _=>rfl)) Ib) (aq (aW (i:=8) ND rfl (by walk_at "o") (aM uA (dh iu (pv 8) (cV ao) eY) (bj (aa ao aj)))) (aq (aW (i:=12) ND rfl (by walk_at "o") (pb (dU rfl) B.min il (aa (pv 2) (aa (pb (e_ rfl) B.max iT (aa (aM du (pv 5) (pv 6)) (aa ao aj))) aj)))) (aq (vU (i:=6) ND rfl (by walk_at "o") (pv 12) Ib) (aq (aW (i:=13) ND rfl (by walk_at "o") (pb (dU rfl) B.min il (aa (pv 6) (aa (aM fC (pv 7) (pv 4)) aj)))) (aq (vU (i:=6) ND rfl (by walk_at "o") (pv 13) Ia) (aq (aW (i:=14) ND rfl (by walk_at "o") (aM uA (bj (aa (bj (aa (pv 2) (aa (pv 13) (aa (pv 6) aj)))) aj)) (pv 11))) (aq (cU (pf ik hr (aa (pv 0) (aa (pv 9) (aa (pv 10) aj)))) (bJ (K:=K) (n:=2) rfl rfl (aC (aD (i:=9) ND rfl (by walk_at "o")) (aC (aD (i:=15) ND rfl (by walk_at "o")) bI)))) (aq (aW (i:=16) ND rfl (by walk_at "o") (bj (aa (pv 6) (aa (pv 7) (aa (pv 8) (aa (pv 9) (aa (pb (e_ rfl) B.max iT (aa (aM du (pv 10) ao) (aa ao aj))) (aa (dh iu (pv 14) eY (cV (Hz O.Di))) aj)))))))) (aq (aW (i:=17) ND rfl (by walk_at "o") (eQ (jR (pv 15)) (pf nH hr (aa (pv 0) (aa (pf pO hr (aa (pv 16) aj)) (aa (pv 14) (aa (pv 3) aj))))) ao)) (aG (aX (bj (aa (pf jU hr (aa (pv 0) (aa (pv 16) (aa (pv 17) aj)))) (aa (pv 13) (aa (aM du (pv 2) (pv 12)) (aa (pv 17) aj))))))))))))))))))),?_⟩
 obtain⟨pa,pb,pc,pd,rfl,p1,p2⟩:=kJ a1
 obtain⟨sa,sb,sc,rfl,g1,g2,g3⟩:=eX a2
 have hc5:=hS.c
 have hpp:=hP.p
 have gc0:(st.cs.map V.int)[0]?=some (.int (st.cs.getD 0 0)):=by
  rw[gM,fM (by omega),fJ,fM (by omega)]; rfl
 walk_at "rd"
 refine⟨pa,_,rfl,p1,fun q1 H1 s1 e1=>?_⟩
 rw[nu (by decide)] at e1
 replace e1:H1 q1=some (.tup [.int x.p,.int x.m]):=e1
 refine⟨q1,_,rfl,cG.of e1,rfl,?_⟩
 walk_at "rd"
 refine⟨sa,_,rfl,cG.of (s1 _ _ g1),rfl,?_⟩
 walk_at "rd"
 refine⟨_,rfl,Ix.tup (s1 _ _ g2) (bx gc0) ⟨_,_,rfl,rfl,?_⟩⟩
 refine⟨sb,_,rfl,s1 _ _ g2,fun q2 H2 s2 e2=>?_⟩
 rw[nC (by decide)] at e2
 have s12:=s1.trans s2
 refine⟨(by decide),fun q3 H3 f3 s3 e3=>?_⟩
 refine⟨q2,q3,_,_,rfl,rfl,s3 _ _ e2,e3,jB (bw (by simp; omega)),fun q4 H4 s4 e4=>?_⟩
 have Jw:=s12.trans (s3.trans s4)
 walk_at "rd"
 refine⟨_,rfl,_,_,rfl,rfl,.inr (by omega),_,rfl,_,_,rfl,rfl,(by decide),fun q5 H5 f5 s5 e5=>⟨(by decide),fun q6 H6 f6 s6 e6=>?_⟩⟩
 replace e5:H5 q5=some (.tup [.int come,.int (fu x st come),.int (st.w+bL x st come-fu x st come)]):=e5
 obtain⟨sc',us',ec,gu,au⟩:=bC g3
 cases ec
 have Ea:=Jw.trans (s5.trans s6)
 have lus:us'.length=3:=by have:=au.length; rw[bR,hS.u] at this; exact this
 refine⟨q6,sc,_,_,rfl,rfl,e6,Ea _ _ gu,jB (bw (by simp; omega)),fun q7 H7 s7 e7=>?_⟩
 have s17:=Ea.trans s7
 have a7:At H7 (Ha (cg x st come)) (.ref q7):=At.tup e7 (ak.cons (At.tup ((s6.trans s7) _ _ e5) (bH [come,fu x st come,st.w+bL x st come-fu x st come])) (au.mono s17))
 have hN:j0 (cg x st come):=⟨by show st.us.length+1=4; rw[hS.u],fun y hy=>by
  rcases b7.mp hy with z | z
  ·rw[z]; rfl
  ·exact hS.l y z⟩
 refine⟨.ref pa,x,st.s,st.t,rfl,a1.mono s17,fun q8 H8 s8 e8=>?_⟩
 refine⟨q8,_,rfl,cG.of e8,rfl,?_⟩
 walk_at "rd"
 have s18:=s17.trans s8
 obtain⟨q7',nws,en,gn,an⟩:=bC (a7.mono s8)
 cases en
 refine⟨q7,_,rfl,gn,fun q9 H9 s9 e9=>?_⟩
 rw[nu (by decide)] at e9
 have s19:=s18.trans s9
 refine⟨(by decide),fun Xj ux f10 lB e10=>?_⟩
 have ZZ:=s19.trans lB
 have e4':H4 q4=some (.tup ((st.cs.drop 1++[0]).map V.int)):=by rw[e4]; simp
 have ZR:aF H4 ux:=s5.trans (s6.trans (s7.trans (s8.trans (s9.trans lB))))
 have am:At ux (lC (cW x st come)) (.ref Xj):=by
  refine At.tup e10 (ak.cons (At.int _) (ak.cons (At.int _) (ak.cons (At.tup (ZR _ _ e4') (bH _)) (ak.cons (At.int _) (ak.cons (At.int _) (ak.cons (At.tup (lB _ _ e9) ?_) ak.nil))))))
  show ak ux (((cg x st come).take 3).map jg) _
  rw[vO]
  exact(an.take 3).mono (s9.trans lB)
 have fin:∀(c:Int) (xQ:Hp),lY x st come fr=c->aF ux xQ->Hf [.ref pa,.ref Xj,.int c] xQ (fun y H1=>4<=sizeLine/\∀p H',H1 p=none->aF H1 H'->H' p=some (.tup [y,.int (fu x st come),.int (come-bL x st come),.int c])->Q (.ref p) H') E0:=fun c xQ ec GF=>by
  subst ec
  have ZX:=ZZ.trans GF
  exact⟨.ref pa,.ref Xj,x,cW x st come,_,rfl,a1.mono ZX,am.mono GF,hP,Fy hS,fun u' Ww abS a12=>⟨(by decide),fun q13 Ou Wl nP Kv=>q q13 u' Ou (ZX.trans (abS.trans nP)) (a12.mono nP) Kv⟩⟩
 refine fW (fun c1=>?_) (fun c1=>?_)
 ·refine⟨.ref Xj,_,Xj,cB st,q4,st.cs.drop 1++[0],_,rfl,rfl,e10,ZR _ _ e4',?_⟩
  refine⟨.ref pa,.ref q7,x,_,fr,cg x st come,rfl,a1.mono ZZ,a7.mono (s8.trans (s9.trans lB)),hP,hN,fun xQ GF=>?_⟩
  exact fin _ xQ (by unfold lY; rw[aL c1]) GF
 ·exact fin 0 ux (by unfold lY; rw[bB (by rw[c1]; decide)]) (aF.refl _)
local macro_rules | `(tactic| walk_at "cap")=>`(tactic| simp only[bW,x_,List.map_nil,List.getElem?_cons_zero,Qq,Option.join_some])
def fG:List fX->Str->Int
 | [],_=>0
 | r::rs,w=>if r.w=w/\fG rs w<(r.s:Int)-1 then(r.s:Int)-1 else fG rs w
structure Ay (rs:List fX) (w:Str) (v:Int):Prop where
 z:0<=v
 le:∀r∈rs,r.w=w->(r.s:Int)-1<=v
 at':v=0\/∃r∈rs,r.w=w/\(r.s:Int)-1=v
theorem Ay.one {rs:List fX} {w:Str} {v u:Int} (h:Ay rs w v) (k:Ay rs w u):v=u:=by
 have h1:v<=u:=by
  rcases h.at' with z | ⟨r,hr,e,z⟩
  ·have:=k.z; omega
  ·have:=k.le r hr e; omega
 have h2:u<=v:=by
  rcases k.at' with z | ⟨r,hr,e,z⟩
  ·have:=h.z; omega
  ·have:=h.le r hr e; omega
 omega
theorem qZ:∀(rs:List fX) (w:Str),Ay rs w (fG rs w)
 | [],w=>⟨uc 0,by simp,.inl rfl⟩
 | r::rs,w=>by
  have ih:=qZ rs w
  have e:fG (r::rs) w=if r.w=w/\fG rs w<(r.s:Int)-1 then(r.s:Int)-1 else fG rs w:=rfl
  rw[e]
  have z:=ih.z
  by_cases c:r.w=w/\fG rs w<(r.s:Int)-1
  ·rw[aL c]
   refine⟨by omega,fun x hx hw=>?_,.inr ⟨r,jl,c.1,rfl⟩⟩
   rcases b7.mp hx with y | y
   ·rw[y]; exact uc _
   ·have:=ih.le x y hw; omega
  ·rw[bB c]
   refine⟨z,fun x hx hw=>?_,?_⟩
   ·rcases b7.mp hx with y | y
    ·subst y
     have:¬fG rs w<(x.s:Int)-1:=fun q=>c ⟨hw,q⟩
     omega
    ·exact ih.le x y hw
   ·rcases ih.at' with y | ⟨x,hx,e1,e2⟩
    ·exact .inl y
    ·exact .inr ⟨x,iM _ hx,e1,e2⟩
def fY (x:cO):List Int:=[fG x.dZ.flatten "come",fG x.dZ.flatten "done",fG x.dZ.flatten "wait"]
theorem J5:∀(r:List Int) (b:Int),(∀y∈b::r,y<=d9 b r)/\d9 b r∈b::r
 | [],b=>⟨fun y hy=>by rw[fU.mp hy]; exact uc _,fU.mpr rfl⟩
 | c::r,b=>by
  have ih:=J5 r (if c>b then c else b)
  have e:d9 b (c::r)=d9 (if c>b then c else b) r:=rfl
  rw[e]
  obtain⟨h1,h2⟩:=ih
  have hb:=h1 _ jl
  have hb2:b<=d9 (if c>b then c else b) r/\c<=d9 (if c>b then c else b) r:=by
   generalize d9 (if c>b then c else b) r=M at hb
   by_cases z:c>b
   ·rw[aL z] at hb; omega
   ·rw[bB z] at hb; omega
  refine⟨fun y hy=>?_,?_⟩
  ·rcases b7.mp hy with z | z
   ·subst z; exact hb2.1
   ·rcases b7.mp z with z | z
    ·subst z; exact hb2.2
    ·exact h1 y (iM _ z)
  ·rcases b7.mp h2 with z | z
   ·rw[z]
    split
    ·exact iM _ jl
    ·exact jl
   ·exact iM _ (iM _ z)
def Bo:Sp:=fun vs H Q _=>∃(p:Addr) (t:Str) (rs:List fX) (xs:List V),vs=[.ref p,.str t]/\H p=some (.lst xs)/\ak H (rs.map pq) xs/\rs.length<=1000/\(∀r∈rs,oW r)/\∀H',aF H H'->Q (.int (fG rs t)) H'
theorem oM:aV ["rows","what"] ["rows","what"] (aH lE):=(by walk_at "c")
theorem yh (F:iW K "most_ahead" "most_ahead" lE f fd) (B:Bi mg):bQ P w K mg base iH (k+1) f fd ["rows","what"] Bo:=by
 refine F.ok oM (by rintro vs H Q E ⟨p,t,rs,xs,rfl,_⟩; rfl) (fun cdv A outer s H vs Q E hr h=>?_)
 obtain⟨p,t,rs,xs,rfl,hp,hA,hn,hR,q⟩:=h
 have ND:=oM.nd
 refine⟨_,(aG (aX (JT rfl B.max (aa (gD (nt:=1) (N':=["row","what"]) (js:=[1]) rfl (mY (K:=K) rfl (pv 0)) j6.of (fun fp s' H'=>(aD (i:=0) (by show List.Nodup (["row","what"]:List Str); decide) rfl (.inl (je rfl)) (.inr (je rfl)))) (fun fp s' H'=>Cw (a_ iV (aZ aO (pv 0) ao (fun _ _=>rfl)) (pv 1) (aR _))) (fun fp s' H'=>(aM du (aZ aO (pv 0) ao (fun _ _=>rfl)) ao))) aj) ao))),?_⟩
 walk_at "rd"
 have hlen:xs.length=rs.length:=by rw[hA.length,bR]
 have row:∀(i:Nat) x,xs[i]?=some x->∃r,rs[i]?=some r/\At H (pq r) x:=fun i x hx=>by
  obtain⟨d,hd,a⟩:=hA.get hx
  rw[gM] at hd
  cases e:rs[i]? with
  | none=>rw[e] at hd; simp at hd
  | some r=>rw[e] at hd; simp at hd; exact⟨r,rfl,by rw[hd]; exact a⟩
 refine KN (fun i=>decide ((rs.getD i ⟨"",0,"",0,0⟩).w=t)) (fun i=>.int (((rs.getD i ⟨"",0,"",0,0⟩).s:Nat)-1)) (fun R hR=>?_) hp (by omega) (fun i x H' hx s' R hR=>?_) (fun i x H' hx hk s' R hR=>?_) (fun acc H' s' hacc hl=>?_)
 ·walk_at "rd"; exact hR
 ·obtain⟨r,er,ax⟩:=row i x hx
  obtain⟨b,rfl,hb⟩:=row_shape ax
  have eg:rs.getD i ⟨"",0,"",0,0⟩=r:=by rw[fJ,er]; rfl
  rw[eg] at hR
  walk_at "rd"
  refine Ix.tup (s' _ _ hb) (bx (j:=0) rfl) ?_
  walk_at "cap"
  walk_at "rd"
  exact hR
 ·obtain⟨r,er,ax⟩:=row i x hx
  obtain⟨b,rfl,hb⟩:=row_shape ax
  have eg:rs.getD i ⟨"",0,"",0,0⟩=r:=by rw[fJ,er]; rfl
  rw[eg] at hR
  walk_at "rd"
  refine Ix.tup (s' _ _ hb) (bx (j:=1) rfl) ?_
  walk_at "rd"
  exact hR
 ·have hl':H' acc=some (.lst ((((List.range xs.length).filter fun i=>decide ((rs.getD i ⟨"",0,"",0,0⟩).w=t)).map fun i=>(((rs.getD i ⟨"",0,"",0,0⟩).s:Nat):Int)-1).map V.int)):=by rw[hl,List.map_map]; rfl
  have mem:∀y,y∈(((List.range xs.length).filter fun i=>decide ((rs.getD i ⟨"",0,"",0,0⟩).w=t)).map fun i=>(((rs.getD i ⟨"",0,"",0,0⟩).s:Nat):Int)-1)↔∃r∈rs,r.w=t/\(r.s:Int)-1=y:=fun y=>by
   simp only[iK,List.mem_filter,rR,decide_eq_true_eq]
   constructor
   ·rintro⟨i,⟨hi,hw⟩,rfl⟩
    have e:rs.getD i ⟨"",0,"",0,0⟩=rs[i]'(by omega):=by rw[fJ,fM (by omega)]; rfl
    rw[e] at hw ⊢
    exact⟨_,BJ _,hw,rfl⟩
   ·rintro⟨r,hr',hw,rfl⟩
    obtain⟨i,hi,e⟩:=List.mem_iff_getElem.mp hr'
    have e':rs.getD i ⟨"",0,"",0,0⟩=r:=by rw[fJ,fM hi,<- e]; rfl
    exact⟨i,⟨by omega,by rw[e']; exact hw⟩,by rw[e']⟩
  generalize (((List.range xs.length).filter fun i=>decide ((rs.getD i ⟨"",0,"",0,0⟩).w=t)).map fun i=>(((rs.getD i ⟨"",0,"",0,0⟩).s:Nat):Int)-1)=ns at hl' mem
  refine⟨acc,ns,rfl,hl',fun e=>?_,fun b r e=>?_⟩
  ·have:(0:Int)=fG rs t:=by
    refine Ay.one (rs:=rs) (w:=t) ⟨uc 0,fun r hr' hw=>?_,.inl rfl⟩ (qZ rs t)
    have:=(mem ((r.s:Int)-1)).mpr ⟨r,hr',hw,rfl⟩
    rw[e] at this
    simp at this
   rw[this]
   exact q H' s'
  ·have:d9 b r=fG rs t:=by
    obtain⟨m1,m2⟩:=J5 r b
    rw[<- e] at m1 m2
    obtain⟨r',h1,h2,h3⟩:=(mem _).mp m2
    refine Ay.one (rs:=rs) (w:=t) ⟨?_,fun x hx hw=>m1 _ ((mem _).mpr ⟨x,hx,hw,rfl⟩),.inr ⟨r',h1,h2,h3⟩⟩ (qZ rs t)
    have:=(hR r' h1).s
    omega
   rw[this]
   exact q H' s'
theorem Hw {H:Hp} {x:cO} {v:V} (h:At H (gZ x) v):∃a b c d ws,v=.ref a/\H a=some (.tup [.int x.p,.int x.m,.ref b,.int x.a,.int x.e,.ref c,.ref d])/\H d=some (.tup ws)/\ak H (x.dZ.map qp) ws:=by
 obtain⟨a,b,c,d,rfl,h1,_⟩:=kJ h
 obtain⟨a',xs,e,h2,h3⟩:=bC h
 cases e
 rw[h1] at h2
 cases h2
 obtain⟨_,_,e,b0,h3⟩:=ak.bh h3
 cases e
 obtain⟨_,_,e,b0,h3⟩:=ak.bh h3
 cases e
 obtain⟨_,_,e,b0,h3⟩:=ak.bh h3
 cases e
 obtain⟨_,_,e,b0,h3⟩:=ak.bh h3
 cases e
 obtain⟨_,_,e,b0,h3⟩:=ak.bh h3
 cases e
 obtain⟨_,_,e,b0,h3⟩:=ak.bh h3
 cases e
 obtain⟨_,_,e,b6,h3⟩:=ak.bh h3
 cases e
 obtain⟨d',ws,e,g1,g2⟩:=bC b6
 cases e
 exact⟨a,b,c,d,ws,rfl,h1,g1,g2⟩
structure Dr (x:cO):Prop where
 n:x.dZ.flatten.length<=900
 r:∀r∈x.dZ.flatten,oW r
def DN:Sp:=fun vs H Q _=>∃(v:V) (x:cO),vs=[v]/\At H (gZ x) v/\Dr x/\∀p H',aF H H'->H' p=some (.tup ((fY x).map V.int))->Q (.ref p) H'
theorem yX:aV ["post","rows"] ["post"] (aH vm):=(by walk_at "c")
theorem Ms (F:iW K "needed" "needed" vm f fd) (B:Bi mg) (O:Co K mg) (lQ:Ct P w K mg base k "most_ahead" ["rows","what"] Bo):bQ P w K mg base iH (k+1) f fd ["post"] DN:=by
 refine F.ok yX (by rintro vs H Q E ⟨v,x,rfl,_⟩; rfl) (fun cdv A outer s H vs Q E hr h=>?_)
 obtain⟨v,x,rfl,hv,hN,q⟩:=h
 have ND:=yX.nd
 refine⟨_,(aq (aW (i:=1) ND rfl (by walk_at "o") (QJ (N':=["rule","row"]) (js:=[]) rfl (i_ (K:=K) rfl (aZ aO (pv 0) ao (fun _ _=>rfl))) j6.of rfl rfl (by decide) rfl rfl (fun fp s' H'=>(i_ (K:=K) rfl (pv 0))) (fun fp s' H'=>(pv 1)))) (aG (aX (pt (cM) B.tuple cH (aa (iw (N':=["what","rows"]) (js:=[1]) rfl (i_ (K:=K) rfl (JQ (K:=K) rfl O.Wo)) uO.mk1 rfl (by decide) rfl (fun fp s' H'=>(pf lQ hr (aa (pv 1) (aa (pv 0) aj))))) aj))))),?_⟩
 obtain⟨a,b,c,d,ws,rfl,h1,h2,h3⟩:=Hw hv
 walk_at "rd"
 have eD:x.dZ.map qp=(x.dZ.map fun rs=>rs.map pq).map PyData.tuple:=by rw[List.map_map]; rfl
 have eF:(x.dZ.map fun rs=>rs.map pq).flatten=x.dZ.flatten.map pq:=by rw[List.map_flatten]
 rw[eD] at h3
 refine RN _ (fun R hR=>?_) h2 h3 (by rw[eF,bR]; have:=hN.n; omega) (fun y H' R hR=>?_) (fun y z H' R hR=>?_) (fun acc ys H' s' hacc hl hA=>?_)
 ·walk_at "rd"
  exact Ix.tup h1 (bx (j:=6) rfl) hR
 ·walk_at "rd"; exact hR
 ·walk_at "rd"; exact hR
 rw[eF] at hA
 refine RM (es:=(fY x).map PyData.int) rfl (by show 3<=sizeLine; decide) rfl (fun i u e H2 hu he s2 R hR=>?_) (fun Ja ys2 H2 s2 Kq hl2 hA2=>?_)
 ·walk_at "cap"
  walk_at "rd"
  have hi:i<3:=by
   by_cases z:i<3
   ·exact z
   ·rw[E_ (by show 3<=i; omega)] at hu; cases hu
  have go:∀(E2:XK) t,u=.str t->e=.int (fG x.dZ.flatten t)->Bo ([V.ref acc,u]++[]) H2 R E2:=fun E2 t e1 e2=>by
   rw[e1]
   exact⟨acc,t,x.dZ.flatten,ys,rfl,s2 _ _ hl,(hA.mono s').mono s2,(by have:=hN.n; omega),hN.r,fun H3 s3=>hR _ _ s3 (by rw[e2]; exact At.int _)⟩
  match i,hi,hu,he with
  | 0,_,hu,he=>cases hu; cases he; exact go _ "come" rfl rfl
  | 1,_,hu,he=>cases hu; cases he; exact go _ "done" rfl rfl
  | 2,_,hu,he=>cases hu; cases he; exact go _ "wait" rfl rfl
 ·cases cI hA2
  refine⟨Ja,_,rfl,hl2,fun l hl3=>?_⟩
  exact q l _ (s'.trans (s2.trans (aK hl3 _))) az
def cu (ws:List Int) (i:Nat) (u:List Int):List Int:=(List.range 3).map fun j=>if ws.getD j 0>i then u.getD j 0 else 0
def dB (ws:List Int) (us:List (List Int)):List (List Int):=(List.range 3).map fun i=>cu ws i (us.getD i [])
def fj (x:cO) (st:cJ):cJ:=⟨st.w,st.r,st.cs,if x.e-1<st.s then x.e-1 else st.s,st.t,dB (fY x) st.us⟩
theorem uH {x:cO} {st:cJ} (h:eV st):eV (fj x st):=⟨h.c,rfl,fun y hy=>by
 obtain⟨i,_,rfl⟩:=iK.mp (show y∈dB (fY x) st.us from hy)
 rfl⟩
theorem M7 {α:Type} {l:List α} (h:l.length=3):∃a b c,l=[a,b,c]:=by
 match l,h with
 | [a,b,c],_=>exact⟨a,b,c,rfl⟩
def Jk:Sp:=fun vs H Q _=>∃(t b:Addr) (i:Nat) (u ws:List Int),vs=[.ref t,.int i,.ref b]/\H t=some (.tup (u.map V.int))/\H b=some (.tup (ws.map V.int))/\u.length=3/\ws.length=3/\∀p H',aF H H'->H' p=some (.tup ((cu ws i u).map V.int))->Q (.ref p) H'
theorem mH:aV ["triple","place","wants"] ["triple","place","wants"] (aH jM):=(by walk_at "c")
theorem wy (F:iW K "lean_triple" "lean_triple" jM f fd) (B:Bi mg):bQ P w K mg base iH (k+1) f fd ["triple","place","wants"] Jk:=by
 refine F.ok mH (by rintro vs H Q E ⟨t,b,i,u,ws,rfl,_⟩; rfl) (fun cdv A outer s H vs Q E hr h=>?_)
 obtain⟨t,b,i,u,ws,rfl,h1,h2,n1,n2,q⟩:=h
 have ND:=mH.nd
 refine⟨_,(aG (aX (pt (cM) B.tuple cH (aa (gD (nt:=2) (N':=["number","want","place"]) (js:=[1]) rfl (qy (K:=K) rfl B.zip (aa (pv 0) (aa (pv 2) aj))) j6.of (fun fp s' H'=>(bJ (K:=K) (n:=2) rfl rfl (aC (aD (i:=0) (by show List.Nodup (["number","want","place"]:List Str); decide) rfl (.inl (je rfl)) (.inr (je rfl))) (aC (aD (i:=1) (by show List.Nodup (["number","want","place"]:List Str); decide) rfl (.inl (je rfl)) (.inr (je rfl))) bI)))) (fun fp s' H'=>jc) (fun fp s' H'=>(eQ (a_ jn (pv 1) (pv 2) (aR _)) (pv 0) ao))) aj)))),?_⟩
 walk_at "rd"
 refine Ah (es:=(cu ws i u).map PyData.int) (fun R hR=>?_) h1 h2 (by rw[bR,n1]; rfl) (by rw[bR,n2]; rfl) (by show 3<=sizeLine; decide) (dw.mpr fun d hd=>by obtain⟨z,_,rfl⟩:=iK.mp hd; rfl) (fun j x y e H' hx hy he s' R hR=>?_) (fun acc zs H' s' hacc hl hA=>?_)
 ·walk_at "rd"; exact hR
 ·rw[gM] at hx hy
  obtain⟨x',ex,rfl⟩:=mX.mp hx
  obtain⟨y',ey,rfl⟩:=mX.mp hy
  have ee:e=.int (if y'>i then x' else 0):=by
   rw[gM] at he
   obtain⟨z,ez,rfl⟩:=mX.mp he
   unfold cu at ez
   rw[gM] at ez
   obtain⟨j',ej,rfl⟩:=mX.mp ez
   have:j'=j:=by
    obtain⟨hh,e2⟩:=iQ.mp ej
    rw[Ez] at e2
    exact e2.symm
   subst this
   rw[fJ,fJ,ex,ey]
   rfl
  walk_at "cap"
  walk_at "rd"
  refine fW (fun c=>?_) (fun c=>?_)
  ·refine hR _ _ (aF.refl _) ?_
   rw[ee,aL (by have:=yc c; omega)]
   exact At.int _
  ·refine hR _ _ (aF.refl _) ?_
   rw[ee,bB (by have:=yd c; omega)]
   exact At.int _
 ·cases cI hA
  refine⟨acc,_,rfl,hl,fun l hl3=>?_⟩
  exact q l _ (s'.trans (aK hl3 _)) az
def Bp:Sp:=fun vs H Q _=>∃(v u:V) (x:cO) (st:cJ),vs=[v,u]/\At H (gZ x) v/\At H (lC st) u/\Dr x/\eV st/\∀u' H',aF H H'->At H' (lC (fj x st)) u'->Q u' H'
theorem Lean.of {v u:V} {x:cO} {st:cJ} {H:Hp} {Q:VK} {E:XK} (a1:At H (gZ x) v) (a2:At H (lC st) u) (n:Dr x) (i:eV st) (q:∀u' H',aF H H'->At H' (lC (fj x st)) u'->Q u' H'):Bp ([v,u]++[]) H Q E:=⟨v,u,x,st,rfl,a1,a2,n,i,q⟩
theorem Ju:aV ["post","stand","wait","ready","called","since","rest","seen","wants","lean_seen"] ["post","stand"] (aH Hm):=(by walk_at "c")
theorem Um (F:iW K "lean" "lean" Hm f fd) (B:Bi mg) (xF:Ct P w K mg base k "needed" ["post"] DN) (jW:Ct P w K mg base k "lean_triple" ["triple","place","wants"] Jk):bQ P w K mg base iH (k+1) f fd ["post","stand"] Bp:=by
 refine F.ok Ju (by rintro vs H Q E ⟨v,u,x,st,rfl,_⟩; rfl) (fun cdv A outer s H vs Q E hr h=>?_)
 obtain⟨v,u,x,st,rfl,hv,hu,hN,hS,q⟩:=h
 have ND:=Ju.nd
 refine⟨_,(aq (cU (pv 1) (bJ (K:=K) (n:=6) rfl rfl (aC (aD (i:=2) ND rfl (by walk_at "o")) (aC (aD (i:=3) ND rfl (by walk_at "o")) (aC (aD (i:=4) ND rfl (by walk_at "o")) (aC (aD (i:=5) ND rfl (by walk_at "o")) (aC (aD (i:=6) ND rfl (by walk_at "o")) (aC (aD (i:=7) ND rfl (by walk_at "o")) bI)))))))) (aq (aW (i:=8) ND rfl (by walk_at "o") (pf xF hr (aa (pv 0) aj))) (aq (aW (i:=9) ND rfl (by walk_at "o") (pt (cM) B.tuple cH (aa (gD (nt:=2) (N':=["place","triple","wants"]) (js:=[8]) rfl (QF (K:=K) rfl B.enumerate (aa (pv 7) aj)) j6.of (fun fp s' H'=>(bJ (K:=K) (n:=2) rfl rfl (aC (aD (i:=0) (by show List.Nodup (["place","triple","wants"]:List Str); decide) rfl (.inl (je rfl)) (.inr (je rfl))) (aC (aD (i:=1) (by show List.Nodup (["place","triple","wants"]:List Str); decide) rfl (.inl (je rfl)) (.inr (je rfl))) bI)))) (fun fp s' H'=>jc) (fun fp s' H'=>(pf jW hr (aa (pv 1) (aa (pv 0) (aa (pv 2) aj)))))) aj))) (aG (aX (bj (aa (pv 2) (aa (pv 3) (aa (pv 4) (aa (pb (dU rfl) B.min il (aa (pv 5) (aa (aM du (aZ aO (pv 0) ao (fun _ _=>rfl)) ao) aj))) (aa (pv 6) (aa (pv 9) aj)))))))))))),?_⟩
 obtain⟨a,b,c,rfl,h1,h2,h3⟩:=eX hu
 obtain⟨pa,pb,pc,pd,rfl,g1,_⟩:=kJ hv
 walk_at "rd"
 refine⟨a,_,rfl,cG.of h1,rfl,?_⟩
 walk_at "rd"
 refine⟨_,x,rfl,hv,hN,fun p H1 s1 e1=>?_⟩
 walk_at "rd"
 obtain⟨c',zs,ec,h4,h5⟩:=bC h3
 cases ec
 have hzl:zs.length=3:=by rw[h5.length,bR,hS.u]
 refine Il (es:=(dB (fY x) st.us).map jg) (fun R hR=>?_) (s1 _ _ h4) (by rw[hzl]; rfl) (by show 3<=sizeLine; decide) (dw.mpr fun d hd=>by
   obtain⟨z,_,rfl⟩:=iK.mp hd
   exact dw.mpr fun d hd=>by obtain⟨z,_,rfl⟩:=iK.mp hd; rfl) (fun j y e H' hy he s' R hR=>?_) (fun acc zs' H' s' hacc hl hA=>?_)
 ·walk_at "rd"; exact hR
 ·obtain⟨d,hd,ay⟩:=h5.get hy
  rw[gM] at hd
  obtain⟨t,et,rfl⟩:=mX.mp hd
  have ht3:t.length=3:=hS.l t (jm et)
  obtain⟨ty,ts,rfl,k1,k2⟩:=bC ay
  cases cI k2
  have ee:e=jg (cu (fY x) j t):=by
   rw[gM] at he
   obtain⟨z,ez,rfl⟩:=mX.mp he
   unfold dB at ez
   rw[gM] at ez
   obtain⟨j',ej,rfl⟩:=mX.mp ez
   have:j'=j:=by
    obtain⟨hh,e2⟩:=iQ.mp ej
    rw[Ez] at e2
    exact e2.symm
   subst this
   rw[fJ,et]
   rfl
  walk_at "cap"
  walk_at "rd"
  refine⟨ty,p,j,t,fY x,rfl,s' _ _ (s1 _ _ k1),s' _ _ e1,ht3,rfl,fun r H2 s2 e2=>?_⟩
  refine hR _ _ s2 ?_
  rw[ee]
  exact At.tup e2 (bH _)
 ·refine⟨acc,zs',rfl,hl,fun l hl3=>?_⟩
  have sl:=aK hl3 (HO.tup zs')
  have A1:At (upd H' l (.tup zs')) (.tuple ((dB (fY x) st.us).map jg)) (.ref l):=At.tup az ((hA.mono cX).mono sl)
  refine Ix.tup (sl _ _ (s' _ _ (s1 _ _ g1))) (bx (j:=4) rfl) ?_
  walk_at "rd"
  refine⟨(by show 6<=sizeLine; decide),fun r H3 f3 s3 e3=>?_⟩
  have ss:aF H H3:=s1.trans (s'.trans (sl.trans s3))
  refine q _ _ ss (At.tup e3 ?_)
  exact ak.cons (At.int _) (ak.cons (At.int _) (ak.cons (At.tup (ss _ _ h2) (bH _)) (ak.cons (At.int _) (ak.cons (At.int _) (ak.cons (A1.mono s3) ak.nil)))))
def jq (x:cO) (st:cJ) (c:Int):cJ:=cP x (cW x st c) (lY x st c 12)
def cN (x:cO):cJ->List Int->cJ
 | st,[]=>st
 | st,c::cs=>cN x (jq x st c) cs
theorem eE (x:cO):∀(st:cJ) (l:List Int) (c:Int),cN x st (l++[c])=jq x (cN x st l) c
 | _,[],_=>rfl
 | st,d::l,c=>eE x (jq x st d) l c
theorem S6 {x:cO} {st:cJ} {ch:Int} (hx:iU x) (hs:eV st):eV (cP x st ch):=by
 have hc:=hs.c
 have ha:=hx.a
 unfold cP
 split
 ·exact hs
 ·split
  ·refine⟨?_,hs.u,hs.l⟩
   simp only[fP,jj,vJ,jD,List.length_nil]
   omega
  ·refine⟨?_,hs.u,hs.l⟩
   simp only[lO]
   exact hc
theorem uE {x:cO} {st:cJ} {c:Int} (hx:iU x) (hs:eV st):eV (jq x st c):=S6 hx (Fy hs)
theorem nJ {x:cO} (hx:iU x):∀{l:List Int} {st:cJ},eV st->eV (cN x st l)
 | [],_,hs=>hs
 | c::l,_,hs=>nJ hx (l:=l) (uE hx hs)
theorem lJ {H:Hp} {x:cO} {v:V} (h:At H (gZ x) v):∃a b c d,v=.ref a/\H a=some (.tup [.int x.p,.int x.m,.ref b,.int x.a,.int x.e,.ref c,.ref d])/\H b=some (.tup [.int x.lo,.int x.hi])/\H c=some (.tup [.int x.u,.int x.d])/\At H (Ho x.dZ) (.ref d):=by
 obtain⟨a,xs,rfl,h1,h2⟩:=bC h
 obtain⟨x0,_,rfl,b0,h2⟩:=ak.bh h2
 obtain⟨x1,_,rfl,b1,h2⟩:=ak.bh h2
 obtain⟨x2,_,rfl,b2,h2⟩:=ak.bh h2
 obtain⟨x3,_,rfl,b3,h2⟩:=ak.bh h2
 obtain⟨x4,_,rfl,b4,h2⟩:=ak.bh h2
 obtain⟨x5,_,rfl,b5,h2⟩:=ak.bh h2
 obtain⟨x6,_,rfl,b6,h2⟩:=ak.bh h2
 cases ak.mD h2
 unfold At at b0 b1 b3 b4
 subst b0 b1 b3 b4
 obtain⟨b,ys,rfl,g3,g4⟩:=bC b2
 obtain⟨c,zs,rfl,g1,g2⟩:=bC b5
 obtain⟨d,ws,rfl,_,_⟩:=bC b6
 cases cI (cs:=[x.u,x.d]) g2
 cases cI (cs:=[x.lo,x.hi]) g4
 exact⟨a,b,c,d,rfl,h1,g3,g1,b6⟩
theorem m8:∀cs:List Int,bM (cs.map PyData.int)=true
 | []=>rfl
 | c::cs=>by show(uD (.int c)&&bM (cs.map .int))=true; rw[m8 cs]; rfl
theorem uT:∀us:List (List Int),bM (us.map jg)=true
 | []=>rfl
 | u::us=>by
  show(bM (u.map PyData.int)&&bM (us.map jg))=true
  rw[uT us,m8 u]; rfl
theorem Jf (n:cJ):uD (lC n)=true:=by
 simp only[lC,uD,bM,m8,uT,Bool.and_self]
def Pu (K:PySem.W.Frag):Sp:=fun vs H Q _=>∃(s:Addr) (ns:List Int) (i:Int),vs=[.ref s,.int i]/\dX K H s (ns.map V.int)/\0<=i/\i<=1000/\∀p H',H p=none->aF H H'->Tp H' p 0->Q (.ref p) H'
theorem zf:aV ["_law_script","_law_k","_law_cell"] ["_law_script","_law_k"] (aH vA):=(by walk_at "c")
theorem Mw (F:iW K "_law_tape" "_law_tape" vA f fd) (B:Bi mg):bQ P w K mg base iH (k+1) f fd ["_law_script","_law_k"] (Pu K):=by
 refine F.ok zf (by rintro vs H Q E ⟨a,ns,i,rfl,_⟩; rfl) (fun cdv A outer s H vs Q E hr h=>?_)
 obtain⟨a,ns,i,rfl,hS,h0,h1,q⟩:=h
 have ND:=zf.nd
 refine⟨_,(aq (aW (i:=2) ND rfl (by walk_at "o") (eQ (a_ tV (pv 1) (pb (dW (K:=K) rfl) B.len jy (aa (pv 0) aj)) (aR _)) (aZ Kd (pv 0) (pv 1) (fun _ _=>rfl)) ao)) (aG (aX (Xp (aa (aM fC (pb (Gj) B.abs R1 (aa (pv 2) aj)) (pt (lq) B.int tE (aa (dC JZ (pb (Gj) B.abs R1 (aa (pv 2) aj)) (aM HF ao ao) (aR _)) aj))) (aa (aM bD (aM bD (aM lK (pv 2) ao) (aM fC ao (pv 1))) ao) (aa ao aj))))))),?_⟩
 walk_at "rd"
 refine⟨a,_,rfl,.inl hS,?_⟩
 show ∃i_1 j,V.int i=V.int i_1/\V.int ((ns.map V.int).length:Int)=V.int j/\_
 walk_at "rd"
 have Yq:∀c:Int,0<=(if c<0 then -c else c):=fun c=>by split <;> omega
 have fin:∀(c x y:Int),x=(if c<0 then -c else c)*(if decide (10 ^ Int.toNat 18<=(if c<0 then -c else c))=true then 1 else 0)->y=c % 2305843009213693951+39373*i+17->∀p,H p=none->Q (.ref p) (upd H p (.lst [.int x,.int y,.int 0])):=fun c x y ex ey p hp=>by
  have hx:0<=x:=by
   rw[ex]
   have nn:=Yq c
   generalize (if c<0 then -c else c)=u at nn ⊢
   split
   ·rw[Int.mul_one]; exact nn
   ·rw[Int.mul_zero]; exact uc 0
  have h2:=Eg c (show(2305843009213693951:Int)≠0 by decide)
  have h3:=Ei c (show(0:Int)<2305843009213693951 by decide)
  exact q p _ hp (aK hp _) ⟨x,y,0,az,hx,by omega,by omega,uc 0,uc 0⟩
 have cm:∀(c:Int) (b:Bool),R_ c (if b=true then 1 else 0):=fun c b=>.inr (by cases b <;> decide)
 refine fW (fun c1=>?_) (fun c1=>?_)
 ·have c1':=yc c1
  have hi:i.toNat<ns.length:=by rw[bR] at c1'; omega
  refine⟨a,_,i,.int (ns[i.toNat]),rfl,rfl,hS,?_,?_⟩
  ·have:=bx (xs:=ns.map V.int) (j:=i.toNat) (v:=.int (ns[i.toNat])) (by rw[gM,fM hi]; rfl)
   rwa [show((i.toNat:Nat):Int)=i by omega] at this
  ·walk_at "rd"
   refine⟨⟨by decide,by decide,by decide⟩,cm _ _,by decide,.inl (by decide),(by show 3<=sizeLine; decide),fun p hp=>?_⟩
   exact fin _ _ _ rfl rfl p hp
 ·refine⟨⟨by decide,by decide,by decide⟩,cm _ _,by decide,.inl (by decide),(by show 3<=sizeLine; decide),fun p hp=>?_⟩
  exact fin 0 _ _ rfl rfl p hp
def oY:Sp:=fun vs H Q _=>∃(a:Addr) (m:Int) (n:Nat),vs=[.ref a,.int m]/\Tp H a n/\n<=1000000000/\0<m/\m<1000000000000000/\∀v H',0<=v->v<m->Tp H' a (n+1)->SX a H H'->Q (.int v) H'
theorem zg:aV ["_law_tape_here","_law_many","_law_found","_law_once","_law_twice"] ["_law_tape_here","_law_many"] (aH vB):=(by walk_at "c")
theorem Mx (F:iW K "_law_draw" "_law_draw" vB f fd) (B:Bi mg):bQ P w K mg base iH (k+1) f fd ["_law_tape_here","_law_many"] oY:=by
 refine F.ok zg (by rintro vs H Q E ⟨a,m,n,rfl,_⟩; rfl) (fun cdv A outer s H vs Q E hr h=>?_)
 obtain⟨a,m,n,rfl,⟨x,y,z,hT,hx,hy,hy2,hz,hz2⟩,hn,hm,hm2,q⟩:=h
 have ND:=zg.nd
 refine⟨_,(aq (dJ (a_ jn (aZ aO (pv 0) ao (fun _ _=>rfl)) ao (aR _)) (aq (aW (i:=2) ND rfl (by walk_at "o") (aM lK (aZ aO (pv 0) ao (fun _ _=>rfl)) (pv 1))) (aq (cU (aM vZ (aZ aO (pv 0) ao (fun _ _=>rfl)) (pv 1)) (vX (pv 0) ao set_list)) (aG (aX (pv 2))))) bT) (aq (cU (aM bD (aZ aO (pv 0) ao (fun _ _=>rfl)) ao) (vX (pv 0) ao set_list)) (aq (aW (i:=3) ND rfl (by walk_at "o") (aM lK (aM HF (aM bD (aZ aO (pv 0) ao (fun _ _=>rfl)) (aM fC ao (aZ aO (pv 0) ao (fun _ _=>rfl)))) ao) ao)) (aq (aW (i:=4) ND rfl (by walk_at "o") (aM lK (aM fC (aM bD (pv 3) (aZ aO (pv 0) ao (fun _ _=>rfl))) (aM bD (aM bD (aM lK (pv 3) ao) ao) (aZ aO (pv 0) ao (fun _ _=>rfl)))) ao)) (aG (aX (aM lK (aM Uj (aM lK (aM bD (aM fC (pv 4) ao) (pv 3)) ao) ao) (pv 1)))))))),?_⟩
 walk_at "rd"
 refine Ix.lst hT (bx (j:=0) rfl) ?_
 walk_at "rd"
 refine fW (fun c1=>?_) (fun c1=>?_)
 ·refine Ix.lst hT (bx (j:=0) rfl) ?_
  walk_at "rd"
  refine⟨hm,Ix.lst hT (bx (j:=0) rfl) ?_⟩
  walk_at "rd"
  refine⟨⟨hm,Int.lt_trans hm2 (by decide)⟩,a,_,0,0,rfl,rfl,hT,rfl,?_⟩
  refine q _ _ (Eg _ (by omega)) (Ei _ hm) ⟨x / m,y,z,az,Int.ediv_nonneg hx (by omega),hy,hy2,hz,by omega⟩ SX.upd
 ·refine Ix.lst hT (bx (j:=2) rfl) ?_
  walk_at "rd"
  refine⟨a,_,2,2,rfl,rfl,hT,rfl,?_⟩
  have hT2:upd H a (.lst [.int x,.int y,.int (z+1)]) a=some (.lst [.int x,.int y,.int (z+1)]):=az
  show Ec (V.ref a) (V.int 1) (upd H a (.lst [.int x,.int y,.int (z+1)])) _
  generalize eH:upd H a (.lst [.int x,.int y,.int (z+1)])=H2 at hT2 ⊢
  have sx:SX a H H2:=by rw[<- eH]; exact SX.upd
  refine Ix.lst hT2 (bx (j:=1) rfl) (Ix.lst hT2 (bx (j:=2) rfl) ?_)
  walk_at "rd"
  refine⟨.inl (by decide),⟨by decide,by decide,by omega⟩,by decide,Ix.lst hT2 (bx (j:=2) rfl) ?_⟩
  generalize eo:(y+39373*(z+1)) ^ Int.toNat 5 % 2147483647=o
  have o1:0<=o:=by rw[<- eo]; exact Eg _ (by decide)
  have o2:o<2147483647:=by rw[<- eo]; exact Ei _ (by decide)
  walk_at "rd"
  refine⟨by decide,Ix.lst hT2 (bx (j:=2) rfl) ?_⟩
  walk_at "rd"
  have m1:=Eg o (show(40009:Int)≠0 by decide)
  have m2:=Ei o (show(0:Int)<40009 by decide)
  refine⟨.inl (by omega),by decide,?_⟩
  generalize et:(o+(z+1))*(o % 40009+7+(z+1)) % 2147483629=t
  have t1:0<=t:=by rw[<- et]; exact Eg _ (by decide)
  have t2:t<2147483629:=by rw[<- et]; exact Ei _ (by decide)
  refine⟨.inl (by omega),by decide,⟨by decide,by decide⟩,hm,?_⟩
  exact q _ _ (Eg _ (by omega)) (Ei _ hm) ⟨x,y,z+1,hT2,hx,hy,hy2,by omega,by omega⟩ sx
theorem gw.of {a:Addr} {m:Int} {n:Nat} {H:Hp} {Q:VK} {E:XK} (t:Tp H a n) (hn:n<=1000000000) (h1:0<m) (h2:m<1000000000000000) (q:∀v H',0<=v->v<m->Tp H' a (n+1)->SX a H H'->Q (.int v) H'):oY ([.ref a,.int m]++[]) H Q E:=⟨a,m,n,rfl,t,hn,h1,h2,q⟩
def YW (i:Int):Prop:=0<=i/\i<=1000000000000
def R4 (u:List Int):Prop:=∃a b c,u=[a,b,c]/\YW a/\YW b/\YW c
abbrev Cv:=List (Int×Int)
def Z8 (p:Int×Int):PyData:=.tuple [.int p.1,.int p.2]
def CP (c:Cv):PyData:=.tuple (c.map Z8)
theorem Qz {H:Hp} {p:Int×Int} {v:V} (h:At H (Z8 p) v):∃a,v=.ref a/\H a=some (.tup [.int p.1,.int p.2]):=by
 obtain⟨a,xs,rfl,h1,h2⟩:=bC h
 obtain⟨x1,_,rfl,a1,h2⟩:=ak.bh h2
 obtain⟨x2,_,rfl,a2,h2⟩:=ak.bh h2
 cases ak.mD h2
 unfold At at a1 a2
 subst a1 a2
 exact⟨a,rfl,h1⟩
theorem xf {H:Hp} {c:Cv} {xs:List V} (hA:ak H (c.map Z8) xs) {i:Nat} {x:V} (hx:xs[i]?=some x):∃a,x=.ref a/\i<c.length/\H a=some (.tup [.int (c.getD i (0,0)).1,.int (c.getD i (0,0)).2]):=by
 obtain⟨d,hd,a⟩:=hA.get hx
 rw[gM] at hd
 cases e:c[i]? with
 | none=>rw[e] at hd; simp at hd
 | some r=>
  rw[e] at hd; simp at hd
  subst hd
  obtain⟨b,rfl,hb⟩:=Qz a
  have eg:c.getD i (0,0)=r:=by rw[fJ,e]; rfl
  obtain⟨hi,_⟩:=iQ.mp e
  rw[eg]
  exact⟨b,rfl,hi,hb⟩
theorem qH (l:List Int):bM (l.map PyData.int)=true:=dw.mpr fun d hd=>by obtain⟨z,_,rfl⟩:=iK.mp hd; rfl
theorem ints_get {l:List Int} {i:Nat} {x:V} (h:(l.map V.int)[i]?=some x):i<l.length/\x=.int (l.getD i 0):=by
 rw[gM] at h
 cases e:l[i]? with
 | none=>rw[e] at h; simp at h
 | some r=>
  rw[e] at h; simp at h
  obtain⟨hi,_⟩:=iQ.mp e
  exact⟨hi,by rw[fJ,e,<- h]; rfl⟩
theorem ou {l:List Int} {i:Nat} {x:PyData} (h:(l.map PyData.int)[i]?=some x):i<l.length/\x=.int (l.getD i 0):=by
 rw[gM] at h
 cases e:l[i]? with
 | none=>rw[e] at h; simp at h
 | some r=>
  rw[e] at h; simp at h
  obtain⟨hi,_⟩:=iQ.mp e
  exact⟨hi,by rw[fJ,e,<- h]; rfl⟩
def uX:Sp:=fun vs H Q _=>∃(v:V) (c:Cv),vs=[v]/\At H (CP c) v/\c.length<=100/\∀p H',aF H H'->H' p=some (.tup ((c.map (·.1)).map V.int))->Q (.ref p) H'
theorem qj:aV ["curve"] ["curve"] (aH mV):=(by walk_at "c")
theorem Cg (F:iW K "bursts_of" "bursts_of" mV f fd) (B:Bi mg):bQ P w K mg base iH (k+1) f fd ["curve"] uX:=by
 refine F.ok qj (by rintro vs H Q E ⟨v,c,rfl,_⟩; rfl) (fun cdv A outer s H vs Q E hr h=>?_)
 obtain⟨v,c,rfl,hv,hn,q⟩:=h
 have ND:=qj.nd
 refine⟨_,(aG (aX (pt (cM) B.tuple cH (aa (gD (nt:=2) (N':=["burst","rate"]) (js:=[]) rfl (i_ (K:=K) rfl (pv 0)) j6.of (fun fp s' H'=>(bJ (K:=K) (n:=2) rfl rfl (aC (aD (i:=0) (by show List.Nodup (["burst","rate"]:List Str); decide) rfl (.inl (je rfl)) (.inr (je rfl))) (aC (aD (i:=1) (by show List.Nodup (["burst","rate"]:List Str); decide) rfl (.inl (je rfl)) (.inr (je rfl))) bI)))) (fun fp s' H'=>jc) (fun fp s' H'=>(pv 0))) aj)))),?_⟩
 obtain⟨a,xs,rfl,h1,h2⟩:=bC hv
 walk_at "rd"
 have hlen:xs.length=c.length:=by rw[h2.length,bR]
 refine Vh (es:=(c.map (·.1)).map PyData.int) (fun i=>[some (.int (c.getD i (0,0)).1),some (.int (c.getD i (0,0)).2)]) (fun i=>rfl) (fun R hR=>?_) h1 (by rw[bR,bR,hlen]) (by rw[bR,bR]; exact jB (bw (by omega))) (qH _) (fun i x H' hx s' R hR=>?_) (fun i e H' he s' R hR=>?_) (fun acc zs H' s' hacc hl hA=>?_)
 ·walk_at "rd"; exact hR
 ·obtain⟨b,rfl,hi,hb⟩:=xf h2 hx
  refine⟨b,_,rfl,cG.of (s' _ _ hb),rfl,?_⟩
  walk_at "rd"
  exact hR
 ·obtain⟨hi,rfl⟩:=ou he
  walk_at "rd"
  refine hR _ _ (aF.refl _) ?_
  rw[bR] at hi
  have:(c.map (·.1)).getD i 0=(c.getD i (0,0)).1:=by rw[fJ,fJ,gM,fM hi]; rfl
  rw[this]
  exact At.int _
 ·cases cI hA
  refine⟨acc,_,rfl,hl,fun l hl3=>?_⟩
  exact q l _ (s'.trans (aK hl3 _)) az
def acf:List Int->Int
 | []=>0
 | b::r=>jE b r
def cF (c:Cv) (sp:List Int):Int:=acf (List.zipWith (fun p l=>p.2+l) c sp)
def gO (c:Cv) (sp:List Int) (x:Int):List Int:=List.zipWith (fun p l=>if l+p.2-x<p.1 then l+p.2-x else p.1) c sp
theorem GP {c:Cv} {sp:List Int} (g:Int×Int->Int->Int) {i:Nat} (h1:i<c.length) (h2:i<sp.length):(List.zipWith g c sp).getD i 0=g (c.getD i (0,0)) (sp.getD i 0):=by
 rw[fJ,fJ,fJ,fM h1,fM h2,fM (by rw[ye]; omega),List.getElem_zipWith]
 rfl
def Hi:Sp:=fun vs H Q _=>∃(v:V) (c:Cv) (q:Addr) (sp:List Int),vs=[v,.ref q]/\At H (CP c) v/\H q=some (.tup (sp.map V.int))/\sp.length=c.length/\c≠[]/\c.length<=100/\∀H',aF H H'->Q (.int (cF c sp)) H'
theorem qd:aV ["curve","spare"] ["curve","spare"] (aH mQ):=(by walk_at "c")
theorem Ca (F:iW K "most_next" "most_next" mQ f fd) (B:Bi mg):bQ P w K mg base iH (k+1) f fd ["curve","spare"] Hi:=by
 refine F.ok qd (by rintro vs H Q E ⟨v,c,q,sp,rfl,_⟩; rfl) (fun cdv A outer s H vs Q E hr h=>?_)
 obtain⟨v,c,qa,sp,rfl,hv,hq,hsp,hne,hn,q⟩:=h
 have ND:=qd.nd
 refine⟨_,(aG (aX (pb (Aj rfl) B.min il (aa (gD (nt:=3) (N':=["burst","rate","left"]) (js:=[]) rfl (qy (K:=K) rfl B.zip (aa (pv 0) (aa (pv 1) aj))) j6.of (fun fp s' H'=>(bJ (K:=K) (n:=2) rfl rfl (aC (bJ (K:=K) (n:=2) rfl rfl (aC (aD (i:=0) (by show List.Nodup (["burst","rate","left"]:List Str); decide) rfl (.inl (je rfl)) (.inr (je rfl))) (aC (aD (i:=1) (by show List.Nodup (["burst","rate","left"]:List Str); decide) rfl (.inl (je rfl)) (.inr (je rfl))) bI))) (aC (aD (i:=2) (by show List.Nodup (["burst","rate","left"]:List Str); decide) rfl (.inl (je rfl)) (.inr (je rfl))) bI)))) (fun fp s' H'=>jc) (fun fp s' H'=>(aM bD (pv 1) (pv 2)))) aj)))),?_⟩
 obtain⟨a,xs,rfl,h1,h2⟩:=bC hv
 walk_at "rd"
 have hlen:xs.length=c.length:=by rw[h2.length,bR]
 have zl:(List.zipWith (fun p l=>p.2+l) c sp).length=c.length:=by rw[ye]; omega
 refine sV (es:=(List.zipWith (fun p l=>p.2+l) c sp).map PyData.int) (fun i=>[some (.int (c.getD i (0,0)).1),some (.int (c.getD i (0,0)).2),some (.int (sp.getD i 0))]) (fun i=>rfl) (fun R hR=>?_) h1 hq (by rw[bR,zl,hlen]) (by rw[bR,bR,zl,hsp]) (by rw[bR,zl]; exact jB (bw (by omega))) (qH _) (fun i x y p H' hx hy s' hp R hR=>?_) (fun i e H' he s' R hR=>?_) (fun acc zs H' s' hacc hl hA=>?_)
 ·walk_at "rd"; exact hR
 ·obtain⟨b,rfl,hi,hb⟩:=xf h2 hx
  obtain⟨hi2,rfl⟩:=ints_get hy
  refine⟨p,_,rfl,cG.of hp,rfl,?_⟩
  walk_at "rd"
  refine⟨b,_,rfl,cG.of (s' _ _ hb),rfl,?_⟩
  walk_at "rd"
  exact hR
 ·obtain⟨hi,rfl⟩:=ou he
  walk_at "rd"
  refine hR _ _ (aF.refl _) ?_
  rw[zl] at hi
  rw[GP _ hi (by omega)]
  exact At.int _
 ·cases cI hA
  have zn:List.zipWith (fun p l=>p.2+l) c sp≠[]:=fun z=>by rw[z] at zl; exact hne (L_.mp zl.symm)
  have qq:=q H' s'
  unfold cF at qq
  generalize List.zipWith (fun(p:Int×Int) (l:Int)=>p.2+l) c sp=zz at *
  match zz,zn with
  | b::r,_=>exact⟨acc,b,r,rfl,hl,qq⟩
def PL:Sp:=fun vs H Q _=>∃(v:V) (c:Cv) (q:Addr) (sp:List Int) (x:Int),vs=[v,.ref q,.int x]/\At H (CP c) v/\H q=some (.tup (sp.map V.int))/\sp.length=c.length/\c.length<=100/\∀p H',aF H H'->H' p=some (.tup ((gO c sp x).map V.int))->Q (.ref p) H'
theorem mG:aV ["curve","spare","come"] ["curve","spare","come"] (aH jL):=(by walk_at "c")
theorem wu (F:iW K "spares_left" "spares_left" jL f fd) (B:Bi mg):bQ P w K mg base iH (k+1) f fd ["curve","spare","come"] PL:=by
 refine F.ok mG (by rintro vs H Q E ⟨v,c,q,sp,x,rfl,_⟩; rfl) (fun cdv A outer s H vs Q E hr h=>?_)
 obtain⟨v,c,qa,sp,x,rfl,hv,hq,hsp,hn,q⟩:=h
 have ND:=mG.nd
 refine⟨_,(aG (aX (pt (cM) B.tuple cH (aa (gD (nt:=3) (N':=["burst","rate","left","come"]) (js:=[2]) rfl (qy (K:=K) rfl B.zip (aa (pv 0) (aa (pv 1) aj))) j6.of (fun fp s' H'=>(bJ (K:=K) (n:=2) rfl rfl (aC (bJ (K:=K) (n:=2) rfl rfl (aC (aD (i:=0) (by show List.Nodup (["burst","rate","left","come"]:List Str); decide) rfl (.inl (je rfl)) (.inr (je rfl))) (aC (aD (i:=1) (by show List.Nodup (["burst","rate","left","come"]:List Str); decide) rfl (.inl (je rfl)) (.inr (je rfl))) bI))) (aC (aD (i:=2) (by show List.Nodup (["burst","rate","left","come"]:List Str); decide) rfl (.inl (je rfl)) (.inr (je rfl))) bI)))) (fun fp s' H'=>jc) (fun fp s' H'=>(pb (dU rfl) B.min il (aa (pv 0) (aa (aM du (aM bD (pv 2) (pv 1)) (pv 3)) aj))))) aj)))),?_⟩
 obtain⟨a,xs,rfl,h1,h2⟩:=bC hv
 walk_at "rd"
 have hlen:xs.length=c.length:=by rw[h2.length,bR]
 have zl:(gO c sp x).length=c.length:=by unfold gO; rw[ye]; omega
 refine sV (es:=(gO c sp x).map PyData.int) (fun i=>[some (.int (c.getD i (0,0)).1),some (.int (c.getD i (0,0)).2),some (.int (sp.getD i 0))]) (fun i=>rfl) (fun R hR=>?_) h1 hq (by rw[bR,zl,hlen]) (by rw[bR,bR,zl,hsp]) (by rw[bR,zl]; exact jB (bw (by omega))) (qH _) (fun i x y p H' hx hy s' hp R hR=>?_) (fun i e H' he s' R hR=>?_) (fun acc zs H' s' hacc hl hA=>?_)
 ·walk_at "rd"; exact hR
 ·obtain⟨b,rfl,hi,hb⟩:=xf h2 hx
  obtain⟨hi2,rfl⟩:=ints_get hy
  refine⟨p,_,rfl,cG.of hp,rfl,?_⟩
  walk_at "rd"
  refine⟨b,_,rfl,cG.of (s' _ _ hb),rfl,?_⟩
  walk_at "rd"
  exact hR
 ·obtain⟨hi,rfl⟩:=ou he
  walk_at "cap"
  walk_at "rd"
  refine hR _ _ (aF.refl _) ?_
  rw[zl] at hi
  unfold gO
  rw[GP _ hi (by omega)]
  exact At.int _
 ·cases cI hA
  refine⟨acc,_,rfl,hl,fun l hl3=>?_⟩
  exact q l _ (s'.trans (aK hl3 _)) az
structure R6 (r:fX):Prop where
 is:oW r
 g:r.g∈(["over","under","each"]:List Str)
theorem Tu (r:fX):uD (pq r)=true:=rfl
theorem Qk (rs:List fX):uD (qp rs)=true:=by
 show bM (rs.map pq)=true
 exact dw.mpr fun d hd=>by obtain⟨r,_,rfl⟩:=iK.mp hd; rfl
structure aaR (rs:List fX):Prop where
 lo:1<=rs.length
 hi:rs.length<=4
 g:∀r∈rs,R6 r
structure Su (x:cO):Prop where
 p:1<=x.p/\x.p<=1000000000000000000
 m:YW x.m
 lo:0<=x.lo/\x.lo<=x.hi
 hi:x.hi<=12
 a:x.a<=4
 e:1<=x.e/\x.e<=6
 u:0<=x.u/\x.u<=9
 d:0<=x.d/\x.d<=9
 n:x.dZ.length<=3
 r:∀rs∈x.dZ,aaR rs
structure PsT (x:cO):Prop where
 l:Su x
 p:x.p<=1000000
 n:∀rs∈x.dZ,∀r∈rs,r.n<=1000000000000
theorem Su.is {x:cO} (h:Su x):iU x:=⟨h.a,by have:=h.p; omega,by have:=h.n; omega,fun rs hrs r hr=>((h.r rs hrs).g r hr).is⟩
def Hh:Sp:=fun vs H Q _=>∃(a:Addr) (n:Nat),vs=[.ref a]/\Tp H a n/\n<=800000000/\∀v r H',(R6 r/\r.n<=1000000000000)->At (hid a H') (pq r) v->Tp H' a (n+12)->SX a H H'->Q v H'
theorem adz.of {a:Addr} {n:Nat} {H:Hp} {Q:VK} {E:XK} (t:Tp H a n) (hn:n<=800000000) (q:∀v r H',(R6 r/\r.n<=1000000000000)->At (hid a H') (pq r) v->Tp H' a (n+12)->SX a H H'->Q v H'):Hh ([.ref a]++[]) H Q E:=⟨a,n,rfl,t,hn,q⟩
theorem DW:aV ["_law_tape_here","_law_sign","_law_what","_law_span","_law_number","_law_step"] ["_law_tape_here"] (aH Br):=(by walk_at "c")
theorem QR (F:iW K "_law_row" "_law_row" Br f fd) (B:Bi mg) (bA:Ct P w K mg base k "_law_draw" ["_law_tape_here","_law_many"] oY):bQ P w K mg base iH (k+1) f fd ["_law_tape_here"] Hh:=by
 refine F.ok DW (by rintro vs H Q E ⟨a,n,rfl,_⟩; rfl) (fun cdv A outer s H vs Q E hr h=>?_)
 obtain⟨a,n,rfl,tp,hn,q⟩:=h
 have ND:=DW.nd
 refine⟨_,(aq (aW (i:=1) ND rfl (by walk_at "o") (aZ aO (b8 (aa dN (aa dN (aa dN aj)))) (pf bA hr (aa (pv 0) (aa ao aj))) (fun _ _=>rfl))) (aq (aW (i:=2) ND rfl (by walk_at "o") (aZ aO (b8 (aa dN (aa dN (aa dN (aa dN aj))))) (pf bA hr (aa (pv 0) (aa ao aj))) (fun _ _=>rfl))) (aq (aW (i:=3) ND rfl (by walk_at "o") (aZ aO (b8 (aa ao (aa ao (aa ao (aa (aM bD ao (pf bA hr (aa (pv 0) (aa ao aj)))) aj))))) (pf bA hr (aa (pv 0) (aa ao aj))) (fun _ _=>rfl))) (aq (aW (i:=4) ND rfl (by walk_at "o") (pf bA hr (aa (pv 0) (aa ao aj)))) (aq (dJ (a_ iV (pv 1) dN (aR _)) (aG (aX (bj (aa (pv 2) (aa (pv 3) (aa (pv 1) (aa (pb (e_ rfl) B.max iT (aa ao (aa (pv 4) aj))) (aa ao aj)))))))) bT) (aq (aW (i:=5) ND rfl (by walk_at "o") (aM bD ao (pf bA hr (aa (pv 0) (aa ao aj))))) (aG (aX (bj (aa (pv 2) (aa (pv 3) (aa (pv 1) (aa (pv 4) (aa (eQ (a_ tV (aM bD (pf bA hr (aa (pv 0) (aa ao aj))) (aM fC (pt (lq) B.int tE (aa (dC iV (pv 1) dN (aR _)) aj)) ao)) ao (aR _)) (pv 5) (aM du ao (pv 5))) aj)))))))))))))),?_⟩
 walk_at "rd"
 refine⟨(by decide),fun p1 H1 f1 s1 e1=>?_⟩
 refine gw.of (tp.same s1) (by omega) (by decide) (by decide) fun y1 H2 l2 u2 t2 s2=>?_
 have n1:p1≠a:=tp.ne f1
 obtain⟨g,hg,eg⟩:=zQ (ts:=["over","under","each"]) l2 u2
 refine Ix.lst (s2.get n1 e1) eg ?_
 refine⟨(by decide),fun p3 H3 f3 s3 e3=>?_⟩
 refine gw.of (t2.same s3) (by omega) (by decide) (by decide) fun y4 H4 l4 u4 t4 s4=>?_
 have n3:p3≠a:=t2.ne f3
 obtain⟨w,hw,ew⟩:=zQ (ts:=["come","done","wait","wait"]) l4 u4
 have hw':w∈(["come","done","wait"]:List Str):=by
  simp only[b7,jQ,or_false] at hw ⊢
  rcases hw with z | z | z | z
  ·exact .inl z
  ·exact .inr (.inl z)
  ·exact .inr (.inr z)
  ·exact .inr (.inr z)
 refine Ix.lst (s4.get n3 e3) ew ?_
 have sx4:SX a H H4:=(SX.of s1).trans (s2.trans ((SX.of s3).trans s4))
 have fin:∀(sp:Nat) (nn tt:Int) (H8:Hp) (m:Nat),(1<=sp/\sp<=4)->Tp H8 a m->m<=n+12->SX a H H8->(0<=nn/\nn<=1000000000000)->(g = "each" -> 1<=nn)->∀p H',H8 p=none->aF H8 H'->H' p=some (.tup [.str w,.int sp,.str g,.int nn,.int tt])->Q (.ref p) H':=fun sp nn tt H8 m hsp t8 hm s8 hnn hge p H' fp sp' ep=>by
  have pa:p≠a:=t8.ne fp
  refine q _ ⟨w,sp,g,nn,tt⟩ H' ⟨⟨⟨hw',hsp,⟨hnn.1,Int.le_trans hnn.2 (by decide)⟩,hge⟩,hg⟩,hnn.2⟩ (At.tup (by rw[bV pa]; exact ep) ?_) ((t8.same sp').mono hm) (s8.trans (SX.of sp'))
  exact ak.cons (At.str _) (ak.cons (At.int _) (ak.cons (At.str _) (ak.cons (At.int _) (ak.cons (At.int _) ak.nil))))
 try walk_at "rd"
 refine gw.of t4 (by omega) (by decide) (by decide) fun y5 H5 l5 u5 t5 s5=>?_
 walk_at "rd"
 refine⟨(by decide),fun p6 H6 f6 s6 e6=>?_⟩
 refine gw.of (t5.same s6) (by omega) (by decide) (by decide) fun y7 H7 l7 u7 t7 s7=>?_
 have n6:p6≠a:=t5.ne f6
 obtain⟨x,hx,ex⟩:=jf (ts:=[1,1,1,1+y5]) l7 u7
 refine Ix.lst (s7.get n6 e6) ex ?_
 have hx':1<=x/\x<=4:=by
  simp only[b7,jQ,or_false] at hx
  rcases hx with rfl | rfl | rfl | rfl <;> omega
 refine gw.of t7 (by omega) (by decide) (by decide) fun num H8 l8 u8 t8 s8=>?_
 walk_at "rd"
 obtain⟨sp,rfl⟩:∃sp:Nat,x=(sp:Int):=⟨x.toNat,by omega⟩
 have sx:SX a H H8:=sx4.trans (s5.trans ((SX.of s6).trans (s7.trans s8)))
 refine fW (fun c1=>?_) (fun c1=>?_)
 ·exact⟨(by decide),fin _ _ _ H8 _ (by omega) t8 (by omega) sx (by split <;> omega) (fun _=>by split <;> omega)⟩
 ·have c1':=yd c1
  refine gw.of t8 (by omega) (by decide) (by decide) fun y8 H9 l9 u9 t9 s9=>?_
  walk_at "rd"
  refine gw.of t9 (by omega) (by decide) (by decide) fun y9 ux l10 u10 W0 lB=>?_
  walk_at "rd"
  refine⟨.inr (by decide),?_⟩
  refine fW (fun c2=>?_) (fun c2=>?_)
  ·exact⟨(by decide),fin _ _ _ ux _ (by omega) W0 (by omega) (sx.trans (s9.trans lB)) (by omega) (fun z=>absurd z c1')⟩
  ·exact⟨(by decide),fin _ _ _ ux _ (by omega) W0 (by omega) (sx.trans (s9.trans lB)) (by omega) (fun z=>absurd z c1')⟩
structure En where
 st:cJ
 sp:List Int
 fr:Option (Nat×Int)
def M_ (st:cJ) (sp:List Int):PyData:=.tuple [lC st,.tuple (sp.map .int)]
def En.key (e:En):PyData:=M_ e.st e.sp
def frD:Option (Nat×Int)->List PyData
 | none=>[.none,.none]
 | some (p,c)=>[.int p,.int c]
def gH (e:En):PyData:=.tuple ([lC e.st,.tuple (e.sp.map .int)]++frD e.fr)
def en0:En:=⟨⟨0,0,[],0,0,[]⟩,[],none⟩
def dY (es:List En) (p:Nat):En:=es.getD p en0
def N6 (x:cO) (e:En) (c:Int):cJ:=fj x (jq x e.st c)
def Gx (x:cO) (e:En) (c:Int):Int:=c-bL x e.st c
def sG (x:cO) (cv:Cv) (e:En) (p:Nat) (c:Int):En:=⟨N6 x e c,gO cv e.sp c,some (p,c)⟩
noncomputable def Dh (x:cO) (cv:Cv) (e:En) (p:Nat) (es:List En) (c:Nat):List En:=if(sG x cv e p c).key∈es.map En.key then es else es++[sG x cv e p c]
noncomputable def Rn (x:cO) (cv:Cv) (e:En) (p:Nat) (es:List En):Nat->List En
 | 0=>es
 | c+1=>Dh x cv e p (Rn x cv e p es c) c
def rB (cv:Cv) (e:En):Nat:=(cF cv e.sp+1).toNat
noncomputable def aJ (x:cO) (cv:Cv) (st:cJ):Nat->List En
 | 0=>[⟨fj x st,cv.map (·.1),none⟩]
 | p+1=>if p<(aJ x cv st p).length then Rn x cv (dY (aJ x cv st p) p) p (aJ x cv st p) (rB cv (dY (aJ x cv st p) p)) else aJ x cv st p
theorem eZ (x:cO) (cv:Cv) (st:cJ) (p:Nat):aJ x cv st (p+1)=if p<(aJ x cv st p).length then Rn x cv (dY (aJ x cv st p) p) p (aJ x cv st p) (rB cv (dY (aJ x cv st p) p)) else aJ x cv st p:=rfl
noncomputable def cA (x:cO) (cv:Cv) (st:cJ) (p c:Nat):List En:=Rn x cv (dY (aJ x cv st p) p) p (aJ x cv st p) c
def IW (x:cO) (bd:Option Int) (e:En) (c:Int):Bool:=match bd with
 | none=>false
 | some b=>decide ((N6 x e c).w>b) || decide (Gx x e c>0)
theorem K5 {x:cO} {cv:Cv} {e:En} {p:Nat} {es:List En} {c:Nat}:∃r,Dh x cv e p es c=es++r:=by
 unfold Dh
 split
 ·exact⟨[],by simp⟩
 ·exact⟨_,rfl⟩
theorem wN {x:cO} {cv:Cv} {e:En} {p:Nat} {es:List En}:∀c,∃r,Rn x cv e p es c=es++r
 | 0=>⟨[],by simp[Rn]⟩
 | c+1=>by
  obtain⟨r,hr⟩:=wN (x:=x) (cv:=cv) (e:=e) (p:=p) (es:=es) c
  obtain⟨r',hr'⟩:=K5 (x:=x) (cv:=cv) (e:=e) (p:=p) (es:=Rn x cv e p es c) (c:=c)
  exact⟨r++r',by show Dh x cv e p (Rn x cv e p es c) c=_; rw[hr',hr,vL]⟩
theorem Ra {x:cO} {cv:Cv} {st:cJ} (p:Nat):∃r,aJ x cv st (p+1)=aJ x cv st p++r:=by
 rw[eZ]
 split
 ·exact wN _
 ·exact⟨[],by simp⟩
theorem jb {x:cO} {cv:Cv} {st:cJ} (p:Nat):∀d,∃r,aJ x cv st (p+d)=aJ x cv st p++r
 | 0=>⟨[],by simp⟩
 | d+1=>by
  obtain⟨r,hr⟩:=jb (x:=x) (cv:=cv) (st:=st) p d
  obtain⟨r',hr'⟩:=Ra (x:=x) (cv:=cv) (st:=st) (p+d)
  exact⟨r++r',by rw[<- Ef,hr',hr,vL]⟩
theorem uJ {x:cO} {cv:Cv} {st:cJ} (p:Nat):1<=(aJ x cv st p).length:=by
 obtain⟨r,hr⟩:=jb (x:=x) (cv:=cv) (st:=st) 0 p
 rw[Bu] at hr
 rw[hr]
 simp[aJ]
theorem wJ {x:cO} {cv:Cv} {st:cJ} {p q:Nat} (h:p<=q):(aJ x cv st p).length<=(aJ x cv st q).length:=by
 obtain⟨r,hr⟩:=jb (x:=x) (cv:=cv) (st:=st) p (q-p)
 rw[show p+(q-p)=q by omega] at hr
 rw[hr,fP]; omega
theorem qJ {x:cO} {cv:Cv} {st:cJ} {p:Nat} (h:p<(aJ x cv st p).length):aJ x cv st (p+1)=cA x cv st p (rB cv (dY (aJ x cv st p) p)):=by
 rw[eZ,aL h]; rfl
theorem J9 {x:cO} {cv:Cv} {st:cJ} {n:Nat} (h:(aJ x cv st n).length=n):∀d,aJ x cv st (n+d)=aJ x cv st n
 | 0=>rfl
 | d+1=>by
  have ih:=J9 h d
  rw[<- Ef,eZ,ih,bB (by rw[h]; omega)]
structure pU (cv:Cv) (e:En):Prop where
 st:eV e.st
 sl:e.sp.length=cv.length
 sp:∀(i:Nat) (b s:Int),(cv.map (·.1))[i]?=some b->e.sp[i]?=some s->s<=b
 nn:∀s∈e.sp,0<=s
structure yL (cv:Cv):Prop where
 ne:cv≠[]
 n:cv.length<=10
 u:∀p∈cv,0<=p.1/\0<=p.2
theorem J4:∀(r:List Int) (b:Int),jE b r∈b::r/\∀y∈b::r,jE b r<=y
 | [],b=>⟨by simp[jE],fun y hy=>by rw[fU.mp hy]; exact uc _⟩
 | x::r,b=>by
  have e:jE b (x::r)=jE (if x<b then x else b) r:=rfl
  rw[e]
  obtain⟨m,hm,h4,h5,h6⟩:∃m,(if x<b then x else b)=m/\m<=b/\m<=x/\(m=b\/m=x):=⟨_,rfl,by split <;> omega,by split <;> omega,by split <;> simp⟩
  rw[hm]
  obtain⟨h1,h2⟩:=J4 r m
  have h3:=h2 _ (jl)
  refine⟨?_,fun y hy=>?_⟩
  ·rcases b7.mp h1 with z | z
   ·rw[z]; rcases h6 with q | q <;> simp[q]
   ·simp[z]
  ·simp only[b7] at hy
   rcases hy with z | z | z
   ·omega
   ·omega
   ·exact h2 y (iM _ z)
theorem Cm {cv:Cv} {sp:List Int} (hn:cv≠[]) (hl:sp.length=cv.length):(∃(i:Nat) (p:Int×Int) (l:Int),cv[i]?=some p/\sp[i]?=some l/\cF cv sp=p.2+l)/\∀(i:Nat) (p:Int×Int) (l:Int),cv[i]?=some p->sp[i]?=some l->cF cv sp<=p.2+l:=by
 unfold cF
 have hlen:(List.zipWith (fun(p:Int×Int) l=>p.2+l) cv sp).length=cv.length:=by rw[ye,hl,zr]
 have get:∀i:Nat,(List.zipWith (fun(p:Int×Int) l=>p.2+l) cv sp)[i]?=match cv[i]?,sp[i]? with | some p,some l=>some (p.2+l) | _,_=>none:=fun i=>by rw[LQ]; cases cv[i]? <;> cases sp[i]? <;> rfl
 generalize List.zipWith (fun(p:Int×Int) l=>p.2+l) cv sp=zs at hlen get
 match zs,hlen with
 | [],hlen=>exact absurd (L_.mp hlen.symm) hn
 | b::r,_=>
  obtain⟨h1,h2⟩:=J4 r b
  refine⟨?_,fun i p l e1 e2=>h2 _ (jm (i:=i) (by rw[get,e1,e2]))⟩
  obtain⟨i,hi⟩:=Qp.mp h1
  rw[get] at hi
  cases e1:cv[i]? with
  | none=>rw[e1] at hi; cases hi
  | some p=>
   cases e2:sp[i]? with
   | none=>rw[e1,e2] at hi; cases hi
   | some l=>rw[e1,e2] at hi; exact⟨i,p,l,e1,e2,(Option.some.inj hi).symm⟩
theorem J2 {cv:Cv} {sp:List Int} (h:yL cv) (hl:sp.length=cv.length) (hs:∀s∈sp,0<=s):0<=cF cv sp:=by
 obtain⟨⟨i,p,l,e1,e2,e⟩,_⟩:=Cm h.ne hl
 have:=h.u p (jm e1)
 have:=hs l (jm e2)
 omega
theorem J8 {cv:Cv} {sp:List Int} {c:Int} (h:yL cv) (hl:sp.length=cv.length) (hc:c<=cF cv sp):∀s∈gO cv sp c,0<=s:=fun s hs=>by
 obtain⟨i,hi⟩:=Qp.mp hs
 unfold gO at hi
 rw[LQ] at hi
 cases e1:cv[i]? with
 | none=>rw[e1] at hi; cases hi
 | some p=>
  cases e2:sp[i]? with
  | none=>rw[e1,e2] at hi; cases hi
  | some l=>
   rw[e1,e2] at hi
   cases hi
   have:=(Cm h.ne hl).2 i p l e1 e2
   have:=h.u p (jm e1)
   show 0<=(if l+p.2-c<p.1 then l+p.2-c else p.1)
   split <;> omega
theorem Q9 {cv:Cv} {sp:List Int} {c:Int} (h:sp.length=cv.length):(gO cv sp c).length=cv.length:=by
 unfold gO
 rw[ye,h,zr]
theorem UW {cv:Cv} {sp:List Int} {c:Int} {i:Nat} {b s:Int} (h1:(cv.map (·.1))[i]?=some b) (h2:(gO cv sp c)[i]?=some s):s<=b:=by
 unfold gO at h2
 rw[LQ] at h2
 rw[gM] at h1
 cases e1:cv[i]? with
 | none=>rw[e1] at h1; cases h1
 | some q=>
  rw[e1] at h1 h2
  cases h1
  cases e2:sp[i]? with
  | none=>rw[e2] at h2; cases h2
  | some l=>
   rw[e2] at h2
   cases h2
   show(if l+q.2-c<q.1 then l+q.2-c else q.1)<=q.1
   split <;> omega
theorem XH {x:cO} {cv:Cv} {e:En} {p:Nat} {c:Int} (hx:iU x) (hv:yL cv) (h:pU cv e) (hc:c<=cF cv e.sp):pU cv (sG x cv e p c):=
 ⟨uH (uE hx h.st),Q9 h.sl,fun i b s h1 h2=>UW h1 h2,J8 hv h.sl hc⟩
theorem Vp {x:cO} {cv:Cv} {e:En} {p:Nat} {es:List En} {c:Nat} (hx:iU x) (hv:yL cv) (he:pU cv e) (hc:c<rB cv e) (h:∀y∈es,pU cv y):∀y∈Dh x cv e p es c,pU cv y:=by
 have hc':(c:Int)<=cF cv e.sp:=by unfold rB at hc; omega
 unfold Dh
 split
 ·exact h
 ·intro y hy
  rcases oH.mp hy with z | z
  ·exact h y z
  ·rw[fU.mp z]; exact XH hx hv he hc'
theorem Rm {x:cO} {cv:Cv} {e:En} {p:Nat} {es:List En} (hx:iU x) (hv:yL cv) (he:pU cv e) (h:∀y∈es,pU cv y):∀c,c<=rB cv e->∀y∈Rn x cv e p es c,pU cv y
 | 0,_=>h
 | c+1,hc=>Vp hx hv he hc (Rm hx hv he h c (by omega))
theorem oE {es:List En} {p:Nat} (h:p<es.length):dY es p∈es/\es[p]?=some (dY es p):=by
 have e:es[p]?=some (dY es p):=by unfold dY; rw[fJ,fM h]; rfl
 exact⟨jm e,e⟩
theorem jJ {x:cO} {cv:Cv} {st:cJ} (hx:iU x) (hv:yL cv) (hs:eV st):∀p,∀y∈aJ x cv st p,pU cv y
 | 0=>fun y hy=>by
  rw[fU.mp hy]
  exact⟨uH hs,by rw[bR],fun i b s h1 h2=>by
   have h2:(cv.map (·.1))[i]?=some s:=h2
   rw[h1] at h2; cases h2; exact uc _,fun s hs'=>by
   obtain⟨p,hp,rfl⟩:=iK.mp (show s∈cv.map (·.1) from hs')
   exact(hv.u p hp).1⟩
 | p+1=>by
  have ih:=jJ (cv:=cv) hx hv hs p
  rw[eZ]
  split
  ·rename_i h
   exact Rm hx hv (ih _ (oE h).1) ih _ (bF _)
  ·exact ih
theorem zU:∀{l l':List Int} {b b':Int},b<=b'->l.length=l'.length->(∀(i:Nat) (x y:Int),l[i]?=some x->l'[i]?=some y->x<=y)->jE b l<=jE b' l'
 | [],[],b,b',h,_,_=>h
 | [],_::_,_,_,_,h,_=>by simp at h
 | _::_,[],_,_,_,h,_=>by simp at h
 | x::l,y::l',b,b',h,hl,ha=>by
  have h0:=ha 0 x y rfl rfl
  show jE (if x<b then x else b) l<=jE (if y<b' then y else b') l'
  refine zU ?_ (by simpa using hl) fun i x' y' h1 h2=>ha (i+1) x' y' h1 h2
  split <;> split <;> omega
theorem Uv {cv:Cv} {sp:List Int} (hl:sp.length=cv.length) (h:∀(i:Nat) (b s:Int),(cv.map (·.1))[i]?=some b->sp[i]?=some s->s<=b):cF cv sp<=cF cv (cv.map (·.1)):=by
 unfold cF
 have key:∀(i:Nat) (x y:Int),(List.zipWith (fun(p:Int×Int) l=>p.2+l) cv sp)[i]?=some x->(List.zipWith (fun(p:Int×Int) l=>p.2+l) cv (cv.map (·.1)))[i]?=some y->x<=y:=fun i x y h1 h2=>by
  rw[LQ] at h1 h2
  cases e1:cv[i]? with
  | none=>rw[e1] at h1; cases h1
  | some q=>
   have e2:(cv.map (·.1))[i]?=some q.1:=by rw[gM,e1]; rfl
   rw[e1,e2] at h2
   rw[e1] at h1
   cases e3:sp[i]? with
   | none=>rw[e3] at h1; cases h1
   | some l=>
    rw[e3] at h1
    cases h1; cases h2
    have:=h i q.1 l e2 e3
    show q.2+l<=q.2+q.1
    omega
 have l1:(List.zipWith (fun(p:Int×Int) l=>p.2+l) cv sp).length=cv.length:=by rw[ye,hl,zr]
 have l2:(List.zipWith (fun(p:Int×Int) l=>p.2+l) cv (cv.map (·.1))).length=cv.length:=by rw[ye,bR,zr]
 generalize List.zipWith (fun(p:Int×Int) l=>p.2+l) cv sp=a at key l1
 generalize List.zipWith (fun(p:Int×Int) l=>p.2+l) cv (cv.map (·.1))=b at key l2
 match a,b,l1,l2 with
 | [],[],_,_=>exact uc _
 | [],_::_,l1,l2=>rw[<- l1] at l2; simp at l2
 | _::_,[],l1,l2=>rw[<- l1] at l2; simp at l2
 | x::a,y::b,l1,l2=>
  exact zU (key 0 x y rfl rfl) (by simp at l1 l2; omega) fun i x' y' h1 h2=>key (i+1) x' y' h1 h2
theorem Wn {cv:Cv} {e:En} (h:pU cv e) (hw:cF cv (cv.map (·.1))<=23):rB cv e<=24:=by
 have:=Uv h.sl h.sp
 unfold rB
 omega
theorem HY (st:cJ) (sp:List Int):xP (M_ st sp):=by
 have hi:∀l:List Int,fD (l.map .int)=true:=fun l=>wB.mpr fun d hd=>by obtain⟨x,_,rfl⟩:=iK.mp hd; rfl
 have ht:fD (st.us.map jg)=true:=wB.mpr fun d hd=>by
  obtain⟨u,_,rfl⟩:=iK.mp hd
  exact hi u
 refine⟨⟨_,rfl⟩,?_,?_⟩
 ·show fD _=true
  simp only[fD,pH,lC,hi,ht,Bool.and_self]
 ·have di:∀l:List Int,PyData.depthAll (l.map .int)<=0:=fun l=>by
   induction l with
   | nil=>exact bF _
   | cons x l ih=>show max 0 (PyData.depthAll (l.map .int))<=0; omega
  have dt:PyData.depthAll (st.us.map jg)<=1:=by
   generalize st.us=us
   induction us with
   | nil=>exact fQ _
   | cons u us ih=>
    have:=di u
    show max (PyData.depthAll (u.map .int)+1) (PyData.depthAll (us.map jg))<=1
    omega
  have d1:=di st.cs
  have d2:=di sp
  unfold M_ lC
  simp only[PyData.depth,PyData.depthAll]
  omega
def t_ (x:cO) (cv:Cv) (st:cJ) (bd:Option Int) (p c:Nat):Prop:=∀p' c':Nat,(p'<p\/p'=p/\c'<c)->p'<(aJ x cv st p').length->c'<rB cv (dY (aJ x cv st p') p')->IW x bd (dY (aJ x cv st p') p') c'=false
structure fH (x:cO) (cv:Cv) (st:cJ) (bd:Option Int) (lim:Int) (n:Nat):Prop where
 hn:(aJ x cv st n).length=n
 hb:t_ x cv st bd n 0
 hl:n=1\/(n:Int)<=lim
structure jz (x:cO) (cv:Cv) (st:cJ) (bd:Option Int) (lim:Int) (p c:Nat):Prop where
 hp:p<(aJ x cv st p).length
 hc:c<rB cv (dY (aJ x cv st p) p)
 hb:t_ x cv st bd p c
 hk:IW x bd (dY (aJ x cv st p) p) c=true
 hl:(cA x cv st p c).length=1\/((cA x cv st p c).length:Int)<=lim
structure nM (x:cO) (cv:Cv) (st:cJ) (bd:Option Int) (lim:Int) (p c:Nat):Prop where
 hp:p<(aJ x cv st p).length
 hc:c<rB cv (dY (aJ x cv st p) p)
 hb:t_ x cv st bd p (c+1)
 hk:(sG x cv (dY (aJ x cv st p) p) p c).key∉(cA x cv st p c).map En.key
 hl:lim<=(cA x cv st p c).length
def bz (es:List En):Nat->Nat->List Int
 | 0,_=>[]
 | fuel+1,p=>match (dY es p).fr with
  | none=>[]
  | some (q,c)=>bz es fuel q++[c]
theorem iy {es r:List En} {p:Nat} (h:p<es.length):dY (es++r) p=dY es p:=by
 unfold dY
 rw[fJ,fJ,BL h]
theorem Vn {x:cO} {cv:Cv} {st:cJ} {p c:Nat} (h:p<(aJ x cv st p).length):dY (cA x cv st p c) p=dY (aJ x cv st p) p:=by
 obtain⟨r,hr⟩:=wN (x:=x) (cv:=cv) (e:=dY (aJ x cv st p) p) (p:=p) (es:=aJ x cv st p) c
 unfold cA
 rw[hr,iy h]
theorem qC {x:cO} {cv:Cv} {st:cJ} {p c:Nat}:(aJ x cv st p).length<=(cA x cv st p c).length:=by
 obtain⟨r,hr⟩:=wN (x:=x) (cv:=cv) (e:=dY (aJ x cv st p) p) (p:=p) (es:=aJ x cv st p) c
 unfold cA
 rw[hr,fP]; omega
theorem kW {x:cO} {cv:Cv} {st:cJ} {p c:Nat}:cA x cv st p (c+1)=if(sG x cv (dY (aJ x cv st p) p) p c).key∈(cA x cv st p c).map En.key then cA x cv st p c else cA x cv st p c++[sG x cv (dY (aJ x cv st p) p) p c]:=rfl
def yK (es:List En):Prop:=∀(i q:Nat) (c:Int),i<es.length->(dY es i).fr=some (q,c)->q<i
theorem yK.snoc {es:List En} {e:En} (h:yK es) (he:∀q c,e.fr=some (q,c)->q<es.length):yK (es++[e]):=fun i q c hi hf=>by
 by_cases z:i<es.length
 ·rw[iy z] at hf; exact h i q c z hf
 ·have:i=es.length:=by rw[fP] at hi; simp at hi; omega
  subst this
  have ee:dY (es++[e]) es.length=e:=by unfold dY; rw[fJ,vM (bF _),vI]; rfl
  rw[ee] at hf
  exact he q c hf
theorem Rk {x:cO} {cv:Cv} {e:En} {p:Nat} {es:List En} (hp:p<es.length) (h:yK es):∀c,yK (Rn x cv e p es c)
 | 0=>h
 | c+1=>by
  have ih:=Rk (x:=x) (cv:=cv) (e:=e) hp h c
  show yK (Dh x cv e p (Rn x cv e p es c) c)
  unfold Dh
  split
  ·exact ih
  ·refine ih.snoc fun q c' hf=>?_
   cases hf
   obtain⟨r,hr⟩:=wN (x:=x) (cv:=cv) (e:=e) (p:=p) (es:=es) c
   rw[hr,fP]; omega
theorem lM {x:cO} {cv:Cv} {st:cJ}:∀p,yK (aJ x cv st p)
 | 0=>fun i q c hi hf=>by
  have:i=0:=by simp[aJ] at hi; exact hi
  subst this
  cases hf
 | p+1=>by
  rw[eZ]
  split
  ·rename_i h
   exact Rk h (lM p) _
  ·exact lM p
theorem BW {x:cO} {cv:Cv} {st:cJ} {p c:Nat} (h:p<(aJ x cv st p).length):yK (cA x cv st p c):=Rk h (lM p) c
structure ZL (K:PySem.W.Frag) (mg:Str->Option Value) (bf bu:Addr):Prop where
 K6:mg "TooMany" = some (.ref bf)
 Vr:mg "TooWide" = some (.ref bu)
 HW:PySem.W.excIn K bf WQ "ValueError.__new__" = true
 HS:PySem.W.excIn K bu WQ "ValueError.__new__" = true
 Ik:PySem.W.exmOne K (.ref bf) (.ref bf)=some true
 Yh:PySem.W.exmOne K (.ref bu) (.ref bu)=some true
variable {bf bu:Addr}
def Pq:Sp:=fun vs H Q _=>∃(v:V) (c:Cv),vs=[v]/\At H (CP c) v/\c≠[]/\c.length<=100/\∀H',aF H H'->Q (.bl (decide (cF c (c.map (·.1))>23))) H'
theorem mJ:aV ["curve"] ["curve"] (aH jN):=(by walk_at "c")
theorem wz (F:iW K "is_too_wide" "is_too_wide" jN f fd) (O:Co K mg) (gb:Ct P w K mg base k "most_next" ["curve","spare"] Hi) (gf:Ct P w K mg base k "bursts_of" ["curve"] uX):bQ P w K mg base iH (k+1) f fd ["curve"] Pq:=by
 refine F.ok mJ (by rintro vs H Q E ⟨v,c,rfl,_⟩; rfl) (fun cdv A outer s H vs Q E hr h=>?_)
 obtain⟨v,c,rfl,a1,hc,hl,q⟩:=h
 have ND:=mJ.nd
 refine⟨_,(aG (aX (dC jn (pf gb hr (aa (pv 0) (aa (pf gf hr (aa (pv 0) aj)) aj))) (Hz O.Ax) (aR _)))),?_⟩
 walk_at "rd"
 refine⟨v,c,rfl,a1,hl,fun p H1 s1 e1=>⟨v,c,p,c.map (·.1),rfl,a1.mono s1,e1,by rw[bR],hc,hl,fun H2 s2=>?_⟩⟩
 exact⟨_,_,rfl,rfl,q H2 (s1.trans s2)⟩
def DP:Sp:=fun vs H Q _=>∃(v u cv:V) (x:cO) (st:cJ) (c:Cv),vs=[v,u,cv]/\At H (gZ x) v/\At H (lC st) u/\At H (CP c) cv/\Dr x/\eV st/\c.length<=100/\∀p v1 p2 H',aF H H'->At H' (lC (fj x st)) v1->H' p2=some (.tup ((c.map (·.1)).map V.int))->H' p=some (.tup [v1,.ref p2,.non,.non])->Q (.ref p) H'
theorem mK:aV ["post","stand","curve"] ["post","stand","curve"] (aH jO):=(by walk_at "c")
theorem wA (F:iW K "first_entry" "first_entry" jO f fd) (sY:Ct P w K mg base k "lean" ["post","stand"] Bp) (gf:Ct P w K mg base k "bursts_of" ["curve"] uX):bQ P w K mg base iH (k+1) f fd ["post","stand","curve"] DP:=by
 refine F.ok mK (by rintro vs H Q E ⟨v,u,cv,x,st,c,rfl,_⟩; rfl) (fun cdv A outer s H vs Q E hr h=>?_)
 obtain⟨v,u,cv,x,st,c,rfl,a1,a2,a3,hn,hs,hl,q⟩:=h
 have ND:=mK.nd
 refine⟨_,(aG (aX (bj (aa (pf sY hr (aa (pv 0) (aa (pv 1) aj))) (aa (pf gf hr (aa (pv 2) aj)) (aa dR (aa dR aj))))))),?_⟩
 walk_at "rd"
 refine Lean.of a1 a2 hn hs fun u1 H1 s1 b1=>⟨cv,c,rfl,a3.mono s1,hl,fun p2 H2 s2 e2=>⟨(by decide),fun p3 H3 f3 s3 e3=>?_⟩⟩
 exact q p3 u1 p2 H3 (s1.trans (s2.trans s3)) (b1.mono (s2.trans s3)) (s3 _ _ e2) e3
theorem jt {H:Hp} {e:En} {v:V} (h:At H (gH e) v):∃a v1 p2 v3 v4,v=.ref a/\H a=some (.tup [v1,.ref p2,v3,v4])/\At H (lC e.st) v1/\H p2=some (.tup (e.sp.map V.int))/\(e.fr=none/\v3=.non/\v4=.non\/∃p c,e.fr=some (p,c)/\v3=.int (p:Nat)/\v4=.int c):=by
 obtain⟨st,sp,fr⟩:=e
 cases fr with
 | none=>
  obtain⟨a,xs,rfl,h1,k0⟩:=bC h
  obtain⟨v1,_,rfl,b1,k1⟩:=ak.bh k0
  obtain⟨v2,_,rfl,b2,k2⟩:=ak.bh k1
  obtain⟨p2,ys,rfl,g1,g2⟩:=bC b2
  cases cI g2
  have k2:ak H [.none,.none] _:=k2
  obtain⟨v3,_,rfl,b3,k3⟩:=ak.bh k2
  obtain⟨v4,_,rfl,b4,k4⟩:=ak.bh k3
  cases ak.mD k4
  unfold At at b3 b4
  subst b3 b4
  exact⟨a,v1,p2,_,_,rfl,h1,b1,g1,.inl ⟨rfl,rfl,rfl⟩⟩
 | some pc=>
  obtain⟨p,c⟩:=pc
  obtain⟨a,xs,rfl,h1,k0⟩:=bC h
  obtain⟨v1,_,rfl,b1,k1⟩:=ak.bh k0
  obtain⟨v2,_,rfl,b2,k2⟩:=ak.bh k1
  obtain⟨p2,ys,rfl,g1,g2⟩:=bC b2
  cases cI g2
  have k2:ak H [.int (p:Nat),.int c] _:=k2
  obtain⟨v3,_,rfl,b3,k3⟩:=ak.bh k2
  obtain⟨v4,_,rfl,b4,k4⟩:=ak.bh k3
  cases ak.mD k4
  unfold At at b3 b4
  subst b3 b4
  exact⟨a,v1,p2,_,_,rfl,h1,b1,g1,.inr ⟨p,c,rfl,rfl,rfl⟩⟩
def Jr:Sp:=fun vs H Q _=>∃(cv v:V) (c:Cv) (e:En),vs=[cv,v]/\At H (CP c) cv/\At H (gH e) v/\yL c/\pU c e/\rB c e<=100/\∀p H',H p=none->aF H H'->H' p=some (.lst ((List.range (rB c e)).map fun(i:Nat)=>V.int i))->Q (.ref p) H'
theorem oO:aV ["curve","entry"] ["curve","entry"] (aH lG):=(by walk_at "c")
theorem ym (F:iW K "comes_next" "comes_next" lG f fd) (B:Bi mg) (gb:Ct P w K mg base k "most_next" ["curve","spare"] Hi):bQ P w K mg base iH (k+1) f fd ["curve","entry"] Jr:=by
 refine F.ok oO (by rintro vs H Q E ⟨cv,v,c,e,rfl,_⟩; rfl) (fun cdv A outer s H vs Q E hr h=>?_)
 obtain⟨cv,v,c,e,rfl,a1,a2,hv,he,hm,q⟩:=h
 have ND:=oO.nd
 refine⟨_,(aG (aX (pt (NB hr.hd) B.list jd (aa (pt (Nx) B.range Gu (aa (aM bD (pf gb hr (aa (pv 0) (aa (aZ aO (pv 1) ao (fun _ _=>rfl)) aj))) ao) aj)) aj)))),?_⟩
 obtain⟨a,v1,p2,v3,v4,rfl,g1,g2,g3,g4⟩:=jt a2
 walk_at "rd"
 refine Ix.tup g1 (v:=.ref p2) rfl ⟨cv,c,p2,e.sp,rfl,a1,g3,he.sl,hv.ne,(by have:=hv.n; omega),fun H1 s1=>?_⟩
 have hm0:=J2 hv he.sl he.nn
 have hm':(cF c e.sp+1).toNat<=100:=hm
 refine⟨_,_,rfl,rfl,by omega,by omega,fun p3 H3 f3 s3 e3=>⟨p3,_,rfl,e3,by omega,by omega,by omega,fun l H4 f4 s4 e4=>?_⟩⟩
 have z:=s1.trans (s3.trans s4)
 exact q l H4 (aF.free (s1.trans s3) f4) z e4
def Jj:Sp:=fun vs H Q _=>∃(v cv u:V) (x:cO) (c:Cv) (e:En) (cm:Int),vs=[v,cv,u,.int cm]/\At H (gZ x) v/\At H (CP c) cv/\At H (gH e) u/\iU x/\Dr x/\pU c e/\c.length<=100/\∀p v1 p2 H',aF H H'->At H' (lC (N6 x e cm)) v1->H' p2=some (.tup ((gO c e.sp cm).map V.int))->H' p=some (.tup [v1,.ref p2,.int (Gx x e cm)])->Q (.ref p) H'
theorem yZ:aV ["post","curve","entry","come","behind","done","away","change"] ["post","curve","entry","come"] (aH vo):=(by walk_at "c")
theorem Mt (F:iW K "led_to" "led_to" vo f fd) (sY:Ct P w K mg base k "lean" ["post","stand"] Bp) (tu:YC P w K mg base k "beat" ["post","stand","come","free"] 12 Hk) (jV:Ct P w K mg base k "spares_left" ["curve","spare","come"] PL):bQ P w K mg base iH (k+1) f fd ["post","curve","entry","come"] Jj:=by
 refine F.ok yZ (by rintro vs H Q E ⟨v,cv,u,x,c,e,cm,rfl,_⟩; rfl) (fun cdv A outer s H vs Q E hr h=>?_)
 obtain⟨v,cv,u,x,c,e,cm,rfl,a1,a2,a3,hx,hn,he,hl,q⟩:=h
 have ND:=yZ.nd
 refine⟨_,(aq (cU (pfd tu hr (aa (pv 0) (aa (aZ aO (pv 2) ao (fun _ _=>rfl)) (aa (pv 3) aj)))) (bJ (K:=K) (n:=4) rfl rfl (aC (aD (i:=4) ND rfl (by walk_at "o")) (aC (aD (i:=5) ND rfl (by walk_at "o")) (aC (aD (i:=6) ND rfl (by walk_at "o")) (aC (aD (i:=7) ND rfl (by walk_at "o")) bI)))))) (aG (aX (bj (aa (pf sY hr (aa (pv 0) (aa (pv 4) aj))) (aa (pf jV hr (aa (pv 1) (aa (aZ aO (pv 2) ao (fun _ _=>rfl)) (aa (pv 3) aj)))) (aa (pv 6) aj))))))),?_⟩
 obtain⟨a,v1,p2,v3,v4,rfl,g1,g2,g3,g4⟩:=jt a3
 walk_at "rd"
 refine Ix.tup g1 (v:=v1) rfl ⟨v,v1,x,e.st,cm,12,rfl,a1,g2,hx,he.st,fun p5 u5 H5 s5 a5 e5=>⟨p5,_,rfl,cG.of e5,rfl,?_⟩⟩
 walk_at "rd"
 refine Lean.of (a1.mono s5) a5 hn (uE hx he.st) fun u6 H6 s6 a6=>?_
 have VV:=s5.trans s6
 refine Ix.tup (VV _ _ g1) (v:=.ref p2) rfl ⟨cv,c,p2,e.sp,cm,rfl,a2.mono VV,VV _ _ g3,he.sl,hl,fun p7 H7 s7 e7=>⟨(by decide),fun p8 H8 f8 s8 e8=>?_⟩⟩
 exact q p8 u6 p7 H8 (VV.trans (s7.trans s8)) (a6.mono (s7.trans s8)) (s8 _ _ e7) e8
def DR:Sp:=fun vs H Q _=>∃(b:Int) (v:V) (aw:Int) (st:cJ),vs=[.int b,v,.int aw]/\At H (lC st) v/\∀H',aF H H'->Q (.bl (decide (st.w>b) || decide (aw>0))) H'
theorem zm:aV ["bound","behind","away"] ["bound","behind","away"] (aH vD):=(by walk_at "c")
theorem Mz (F:iW K "breaks" "breaks" vD f fd):bQ P w K mg base iH (k+1) f fd ["bound","behind","away"] DR:=by
 refine F.ok zm (by rintro vs H Q E ⟨b,v,aw,st,rfl,_⟩; rfl) (fun cdv A outer s H vs Q E hr h=>?_)
 obtain⟨b,v,aw,st,rfl,a1,q⟩:=h
 have ND:=zm.nd
 refine⟨_,(aG (aX (V8 (dC jn (aZ aO (pv 1) ao (fun _ _=>rfl)) (pv 0) (aR _)) (vY (dC jn (pv 2) ao (aR _)))))),?_⟩
 obtain⟨sa,sb,sc,rfl,g1,g2,g3⟩:=eX a1
 walk_at "rd"
 refine Ix.tup g1 (v:=.int st.w) rfl ⟨_,_,rfl,rfl,?_⟩
 have q1:Q (.bl (decide (b<st.w) || decide (0<aw))) H:=q H (aF.refl H)
 cases e1:decide (b<st.w) with
 | true=>rw[e1] at q1; rw[aL rfl]; exact q1
 | false=>rw[e1] at q1; rw[bB (by decide)]; exact q1
def PB (C:Addr):Sp:=fun vs H Q E=>∃(l:Addr) (ys:List V) (lim:Int),vs=[.ref l,.int lim]/\H l=some (.lst ys)/\0<=lim/\lim<=1000/\((ys.length:Int)<lim->∀H',aF H H'->Q .non H')/\(lim<=(ys.length:Int)->∀H',aF H H'->E (.ref C) none H')
theorem oU:aV ["entries","limit"] ["entries","limit"] (aH lH):=(by walk_at "c")
theorem yp (F:iW K "check_room" "check_room" lH f fd) (B:Bi mg) (Z:ZL K mg bf bu):bQ P w K mg base (my P w) (k+1) f fd ["entries","limit"] (PB bf):=by
 refine F.YF oU (by rintro vs H Q E ⟨l,ys,lim,rfl,_⟩; rfl) (fun cdv A outer s H vs Q E Nk hr h=>?_)
 obtain⟨l,ys,lim,rfl,hl,h1,h2,q1,q2⟩:=h
 have ND:=oU.nd
 refine⟨_,(aG (dJ (a_ JZ (pb (dW (K:=K) rfl) B.len jy (aa (pv 0) aj)) (pv 1) (aR _)) (aG (Fb ⟨Z.K6,Z.HW⟩ Nk (aa (V9 (nR dN (nR (V_ (pv 1)) (nR dN QB)))) aj))) bT)),?_⟩
 walk_at "rd"
 refine⟨l,ys,rfl,.inl (dX.of hl),⟨_,_,rfl,rfl,?_⟩⟩
 by_cases c1:lim<=(ys.length:Int)
 ·rw[aL (gC c1)]
  have hd:=RJ (n:=lim) (k:=4) (by decide) (by omega)
  have l1:(Str.ofString "more than ").length=10:=rfl
  have l2:(Str.ofString " entries").length=8:=rfl
  have l0:Str.empty.length=0:=rfl
  have e3:(Str.empty++Str.ofString "more than " ++ tx (dg lim)++Str.ofString " entries").length<=sizeLine:=by
   simp only[Str.length_append,rD,l0,l1,l2,sizeLine_eq]; omega
  refine⟨_,rfl,?_,_,RB (by omega) (by omega),?_,_,rfl,?_,_,rfl,e3,e3,by decide,fun H' s'=>q2 c1 H' s'⟩
  ·simp only[Str.length_append,l0,l1,sizeLine_eq]; omega
  ·rw[rD,sizeLine_eq]; omega
  ·simp only[Str.length_append,rD,l0,l1,sizeLine_eq]; omega
 ·rw[bB (by simpa using c1)]
  exact q1 (by omega) H (aF.refl H)
theorem lV {H:Hp} {es:List En} {ys:List V} (h:ak H (es.map gH) ys) {p:Nat} (hp:p<es.length):∃y,ys[p]?=some y/\At H (gH (dY es p)) y:=by
 have hl:ys.length=es.length:=by rw[h.length,bR]
 have hy:ys[p]?=some (ys[p]'(by omega)):=fM (by omega)
 obtain⟨d,e1,e2⟩:=h.get hy
 rw[gM,(oE hp).2] at e1
 cases e1
 exact⟨_,hy,e2⟩
theorem Ge (e:En):uD (gH e)=true:=by
 have h1:=Jf e.st
 have h2:=m8 e.sp
 unfold gH frD
 cases e.fr <;> simp[uD,bM,h1,h2]
theorem sS (es:List En):bM (es.map gH)=true:=dw.mpr fun d hd=>by obtain⟨e,_,rfl⟩:=iK.mp hd; exact Ge e
def FrV (fr:Option (Nat×Int)) (v3 v4:V):Prop:=fr=none/\v3=.non/\v4=.non\/∃p c,fr=some (p,c)/\v3=.int (p:Nat)/\v4=.int c
theorem nY {es:List En} (hq:∀(i q:Nat) (c:Int),i<es.length->(dY es i).fr=some (q,c)->q<i):∀(i f g:Nat),i<es.length->i<f->i<g->bz es f i=bz es g i:=by
 intro i
 induction i using Nat.strongRecOn with
 | _ i ih=>
  intro f g hi hf hg
  obtain⟨f',rfl⟩:∃f',f=f'+1:=⟨f-1,by omega⟩
  obtain⟨g',rfl⟩:∃g',g=g'+1:=⟨g-1,by omega⟩
  unfold bz
  cases e:(dY es i).fr with
  | none=>rfl
  | some pc=>
   obtain⟨q,c⟩:=pc
   have hlt:=hq i q c hi e
   dsimp only
   rw[ih q hlt f' g' (by omega) (by omega) (by omega)]
def pY:Sp:=fun vs H Q _=>∃(l:Addr) (ys:List V) (es:List En) (p:Nat),vs=[.ref l,.int p]/\H l=some (.lst ys)/\ak H (es.map gH) ys/\p<es.length/\es.length<=1000/\(∀(i q:Nat) (c:Int),i<es.length->(dY es i).fr=some (q,c)->q<i)/\∀r H',H r=none->aF H H'->H' r=some (.lst ((bz es es.length p).map V.int))->Q (.ref r) H'
theorem u_:aV ["entries","place","load","came_from","come"] ["entries","place"] (aH rK):=(by walk_at "c")
theorem HJ (F:iW K "load_to" "load_to" rK f fd):bQ P w K mg base iH (k+1) f fd ["entries","place"] pY:=by
 refine F.ok u_ (by rintro vs H Q E ⟨l,ys,es,p,rfl,_⟩; rfl) (fun cdv A outer s H vs Q E hr h=>?_)
 obtain⟨l,ys,es,p,rfl,hl,ha,hp,hn,hq,q⟩:=h
 have ND:=u_.nd
 refine⟨_,(aq (aW (i:=2) ND rfl (by walk_at "o") (b8 aj)) (aq (cU (dh iu (aZ aO (pv 0) (pv 1) (fun _ _=>rfl)) (cV ao) eY) (bJ (K:=K) (n:=2) rfl rfl (aC (aD (i:=3) ND rfl (by walk_at "o")) (aC (aD (i:=4) ND rfl (by walk_at "o")) bI)))) (aq (vQ PassesOwn.never (a_ jH (pv 4) dR (aR _)) (aq (iZ (mZ (K:=K) rfl PySem.F.plainAttrs_list PySem.F.slot_list_append PySem.F.type_list_append fZ (pv 2) (aa (pv 4) aj))) (aG (cU (dh iu (aZ aO (pv 0) (pv 3) (fun _ _=>rfl)) (cV ao) eY) (bJ (K:=K) (n:=2) rfl rfl (aC (aD (i:=3) ND rfl (by walk_at "o")) (aC (aD (i:=4) ND rfl (by walk_at "o")) bI))))))) (aG (aX (JR (K:=K) rfl (pv 2) (cV (Ff uR ao)))))))),?_⟩
 walk_at "rd"
 refine⟨fQ _,fun r H1 f1 s1 e1=>?_⟩
 obtain⟨y,y1,y2⟩:=lV ha hp
 obtain⟨ea,v1,p2,v3,v4,rfl,g1,_,_,g4⟩:=jt y2
 refine Ix.lst (s1 _ _ hl) (bx y1) ⟨ea,_,rfl,s1 _ _ g1,fun p3 H3 s3 e3=>?_⟩
 rw[nC (by decide)] at e3
 have e3:H3 p3=some (.tup [v3,v4]):=e3
 refine⟨p3,_,rfl,cG.of e3,rfl,?_⟩
 walk_at "rd"
 have rl:r≠l:=fun z=>by rw[z,hl] at f1; cases f1
 have fuel:=nY hq
 refine⟨fun m σ H'=>∃(i:Nat) (acc:List Int) (w3 w4:V),σ=[some (.ref l),some (.int p),some (.ref r),some w3,some w4]/\i<es.length/\m=i+(if(dY es i).fr=none then 0 else 1)/\FrV (dY es i).fr w3 w4/\bz es es.length p=bz es es.length i++acc.reverse/\acc.length+i<=es.length/\H' r=some (.lst (acc.map V.int))/\aF H H',⟨_,p,[],v3,v4,rfl,hp,rfl,g4,by simp,by simp; omega,s3 _ _ e1,s1.trans s3⟩,?_⟩
 rintro m σ H4 ⟨i,acc,w3,w4,rfl,hi,hm,hf,hpa,hal,e4,s4⟩
 walk_at "rd"
 refine⟨trivial,?_⟩
 rcases hf with⟨z1,rfl,rfl⟩ | ⟨q',c,z1,rfl,rfl⟩
 ·rw[bB (by decide)]
  have ep:bz es es.length i=[]:=by
   obtain⟨f',hf'⟩:∃f',es.length=f'+1:=⟨es.length-1,by omega⟩
   rw[hf']
   unfold bz
   rw[z1]
  rw[ep,Hs] at hpa
  unfold O7
  walk_at "rd"
  refine⟨trivial,r,_,rfl,dX.of e4,fun p5 f5=>?_⟩
  refine q p5 _ (aF.free s4 f5) (s4.trans (aK f5 _)) ?_
  rw[az,hpa,List.map_reverse]
 ·rw[aL (by simp)]
  have hlt:=hq i q' c hi z1
  refine⟨_,fun σ' H' z=>z,.inl ⟨rfl,_,dX.of e4⟩,r,_,_,rfl,rfl,e4,by rw[bR]; exact bw (by omega),?_⟩
  have s5:aF H (upd H4 r (.lst (acc.map V.int++[V.int c]))):=s4.d7 (by exact f1)
  have e5:upd H4 r (.lst (acc.map V.int++[V.int c])) r=some (.lst ((acc++[c]).map V.int)):=by rw[az,jC]; rfl
  generalize upd H4 r (.lst (acc.map V.int++[V.int c]))=H5 at s5 e5
  obtain⟨y',y1',Zh⟩:=lV ha (show q'<es.length by omega)
  obtain⟨ea',v1',p2',v3',v4',rfl,g1',_,_,g4'⟩:=jt Zh
  refine Ix.lst (s5 _ _ hl) (bx y1') ⟨ea',_,rfl,s5 _ _ g1',fun p6 H6 s6 e6=>?_⟩
  rw[nC (by decide)] at e6
  have e6:H6 p6=some (.tup [v3',v4']):=e6
  refine⟨p6,_,rfl,cG.of e6,rfl,?_⟩
  walk_at "rd"
  have ep:bz es es.length i=bz es es.length q'++[c]:=by
   obtain⟨f',hf'⟩:∃f',es.length=f'+1:=⟨es.length-1,by omega⟩
   rw[fuel q' es.length f' (by omega) (by omega) (by omega),hf']
   conv=>lhs; unfold bz
   rw[z1]
  refine⟨_,?_,q',acc++[c],v3',v4',rfl,by omega,rfl,g4',?_,by rw[fP]; simp; omega,s6 _ _ e5,s5.trans s6⟩
  ·have hm':m=i+1:=by rw[hm,z1]; rfl
   split <;> omega
  ·rw[hpa,ep,List.reverse_append,vL]; rfl
variable {bf bu:Addr}
theorem Ed.of {H:Hp} {l b:Addr} {xs zs:List V} {Q:VK} (h1:H l=some (.lst xs)) (h2:H b=some (.lst zs)) (hn:xs.length+zs.length<=sizeLine) (q:∀p H',H p=none->aF H H'->H' p=some (.lst (xs++zs))->Q (.ref p) H'):Ed (.ref l) (.ref b) H Q:=
 ⟨l,b,xs,zs,rfl,rfl,h1,h2,hn,fun p fp=>q p _ fp (aK fp _) az⟩
theorem UT {xs ys:List V} (h:xs.length+ys.length<=1000):xs.length+ys.length<=sizeLine:=jB (bw h)
theorem kO {es:List En} (hq:yK es):∀(f i:Nat),(bz es f i).length<=f
 | 0,_=>bF _
 | f+1,i=>by
  unfold bz
  split
  ·exact fQ _
  ·rw[fP]
   have:=kO hq f
   rename_i q c _
   have:=this q
   simp
   omega
def YS:Option Int->V
 | none=>.non
 | some b=>.int b
def Wq (H H':Hp) (es:List En) (w:V) (v:V):Prop:=∃p l ys,v=.ref p/\H' p=some (.tup [.ref l,w])/\H l=none/\H' l=some (.lst ys)/\ak H' (es.map gH) ys
def uW (CM CW:Addr):Sp:=fun vs H Q E=>∃(v u cv:V) (x:cO) (st:cJ) (c:Cv) (bd:Option Int) (lim:Int),vs=[v,u,cv,YS bd,.int lim]/\At H (gZ x) v/\At H (lC st) u/\At H (CP c) cv/\iU x/\Dr x/\eV st/\yL c/\0<=lim/\lim<=900 /\
 (23<cF c (c.map (·.1))->∀H',aF H H'->E (.ref CW) none H') /\
 (cF c (c.map (·.1))<=23->∀n,fH x c st bd lim n->∀v' H',aF H H'->Wq H H' (aJ x c st n) .non v'->Q v' H') /\
 (cF c (c.map (·.1))<=23->∀p cc,jz x c st bd lim p cc->∀v' r H',aF H H'->H r=none->H' r=some (.lst ((bz (cA x c st p cc) (cA x c st p cc).length p++[(cc:Int)]).map V.int))->Wq H H' (cA x c st p cc) (.ref r) v'->Q v' H') /\
 (cF c (c.map (·.1))<=23->∀p cc,nM x c st bd lim p cc->∀H',aF H H'->E (.ref CM) none H')
theorem yV:aV ["post","stand","curve","bound","limit","entries","met","place","come","behind","spare","away"] ["post","stand","curve","bound","limit"] (aH vg):=(by walk_at "c")
theorem Mq (F:iW K "walked" "walked" vg f fd) (B:Bi mg) (O:Co K mg) (Z:ZL K mg bf bu) (jX:Ct P w K mg base k "is_too_wide" ["curve"] Pq) (jY:Ct P w K mg base k "first_entry" ["post","stand","curve"] DP) (lR:Ct P w K mg base k "comes_next" ["curve","entry"] Jr)
  (xG:Ct P w K mg base k "led_to" ["post","curve","entry","come"] Jj) (xJ:Ct P w K mg base k "breaks" ["bound","behind","away"] DR) (lU:GK P w K mg base k "check_room" ["entries","limit"] (PB bf)) (sX:Ct P w K mg base k "load_to" ["entries","place"] pY) :
  bQ P w K mg base (my P w) (k+1) f fd ["post","stand","curve","bound","limit"] (uW bf bu):=by
 refine F.YF yV (by rintro vs H Q E ⟨v,u,cv,x,st,c,bd,lim,rfl,_⟩; rfl) (fun cdv A outer s H vs Q E Nk hr h=>?_)
 obtain⟨v,u,cv,x,st,c,bd,lim,rfl,a1,a2,a3,hx,hn,hs,hv,hl1,hl2,qW,qD,qB,qM⟩:=h
 have ND:=yV.nd
 refine⟨_,(aq (dJ (jR (pf jX hr (aa (pv 2) aj))) (aG (Fb ⟨Z.Vr,Z.HS⟩ Nk (aa (V9 (nR dN (nR (V_ (Hz O.Ax)) (nR dN QB)))) aj))) bT) (aq (aW (i:=5) ND rfl (by walk_at "o") (b8 (aa (pf jY hr (aa (pv 0) (aa (pv 1) (aa (pv 2) aj)))) aj))) (aq (aW (i:=6) ND rfl (by walk_at "o") (HB Ny (by rfl) B.set Yl)) (aq (iZ (JS hr.units (pv 6) (aa (dh iu (aZ aO (pv 5) ao (fun _ _=>rfl)) eY (cV ao)) aj))) (aq (aW (i:=7) ND rfl (by walk_at "o") ao) (aq (vQ PassesOwn.leaving (a_ tV (pv 7) (pb (dW (K:=K) rfl) B.len jy (aa (pv 5) aj)) (aR _)) (aq (g8 PassesOwn.leaving rfl (mY (K:=K) rfl (pf lR hr (aa (pv 2) (aa (aZ aO (pv 5) (pv 7) (fun _ _=>rfl)) aj)))) (aD (i:=8) ND rfl (by walk_at "o")) (aq (cU (pf xG hr (aa (pv 0) (aa (pv 2) (aa (aZ aO (pv 5) (pv 7) (fun _ _=>rfl)) (aa (pv 8) aj))))) (bJ (K:=K) (n:=3) rfl rfl (aC (aD (i:=9) ND rfl (by walk_at "o")) (aC (aD (i:=10) ND rfl (by walk_at "o")) (aC (aD (i:=11) ND rfl (by walk_at "o")) bI))))) (aq (dJ (PW.pt (sr (a_ jH (pv 3) dR (aR _)) (nQ (jR (pf xJ hr (aa (pv 3) (aa (pv 9) (aa (pv 11) aj)))))))) (aG (aX (bj (aa (pv 5) (aa (aM v_ (pf sX hr (aa (pv 5) (aa (pv 7) aj))) (b8 (aa (pv 8) aj))) aj))))) bT) (aG (dJ (a_ (Mp hr.units) (bj (aa (pv 9) (aa (pv 10) aj))) (pv 6) (by with_unfolding_all rfl)) (aq (iZ (pfe lU hr (aa (pv 5) (aa (pv 4) aj)))) (aq (iZ (JS hr.units (pv 6) (aa (bj (aa (pv 9) (aa (pv 10) aj))) aj))) (aG (iZ (mZ (K:=K) rfl PySem.F.plainAttrs_list PySem.F.slot_list_append PySem.F.type_list_append fZ (pv 5) (aa (bj (aa (pv 9) (aa (pv 10) (aa (pv 7) (aa (pv 8) aj))))) aj)))))) bT))))) (aG (vU (i:=7) ND rfl (by walk_at "o") ao Ib)))) (aG (aX (bj (aa (pv 5) (aa dR aj))))))))))),?_⟩
 simp only[Qe]
 walk_at "rd"
 refine d8.of (fun σ' H'=>cF c (c.map (·.1))<=23/\aF H H'/\σ'=[some v,some u,some cv,some (YS bd),some (.int lim),none,none,none,none,none,none,none]) ?_ ?_
 rotate_left 1
 ·intro N sO
  walk_at "rd"
  refine⟨cv,c,rfl,a3,hv.ne,(by have:=hv.n; omega),fun H1 s1=>⟨_,rfl,?_⟩⟩
  by_cases c1:cF c (c.map (·.1))>23
  ·rw[aL (gC c1)]
   have hd:=RJ (n:=23) (k:=4) (by decide) (by decide)
   have l1:(Str.ofString "more than ").length=10:=rfl
   have l2:(Str.ofString " units may come in a beat").length=25:=rfl
   have l0:Str.empty.length=0:=rfl
   have e3:(Str.empty++Str.ofString "more than " ++ tx (dg 23)++Str.ofString " units may come in a beat").length<=sizeLine:=by
    simp only[Str.length_append,rD,l0,l1,l2,sizeLine_eq]; omega
   refine⟨_,rfl,?_,_,RB (by decide) (by decide),?_,_,rfl,?_,_,rfl,e3,e3,by decide,fun H' s'=>qW (by omega) H' (s1.trans s')⟩
   ·simp only[Str.length_append,l0,l1,sizeLine_eq]; omega
   ·rw[rD,sizeLine_eq]; omega
   ·simp only[Str.length_append,rD,l0,l1,sizeLine_eq]; omega
  ·rw[bB (by simpa using c1)]
   exact sO _ _ ⟨by omega,s1,rfl⟩
 rintro σ' H1 ⟨hW,s1,rfl⟩
 walk_at "rd"
 refine⟨v,u,cv,x,st,c,rfl,a1.mono s1,a2.mono s1,a3.mono s1,hn,hs,(by have:=hv.n; omega),fun pe v1 p2 H2 s2 b1 b2 b3=>⟨(by decide),fun l H3 f3 s3 e3=>⟨trivial,fun m H4 f4 s4 n4 hφ=>⟨⟨m,[],rfl,n4⟩,?_⟩⟩⟩⟩
 clear hφ
 have s34:=s3.trans s4
 have Jw:=s1.trans (s2.trans s34)
 refine Ix.lst (s4 _ _ e3) (v:=.ref pe) (bx (j:=0) rfl) ⟨pe,_,rfl,s34 _ _ b3,fun p5 H5 s5 e5=>?_⟩
 rw[nu (by decide)] at e5
 have e5:H5 p5=some (.tup [v1,.ref p2]):=e5
 have Qi:=s34.trans s5
 have k5:oX H5 (M_ (fj x st) (c.map (·.1))) (.ref p5):=⟨HY _ _,At.tup e5 (ak.cons (b1.mono Qi) (ak.cons (At.tup (Qi _ _ b2) (bH _)) ak.nil))⟩
 refine⟨m,[],.ref p5,_,rfl,rfl,n4.same s5,by decide,k5,fun H6 p6=>?_⟩
 have fl:H l=none:=aF.free (s1.trans s2) f3
 have fm:H m=none:=aF.free (s1.trans (s2.trans s3)) f4
 have lm:l≠m:=fun z=>by rw[z] at e3; rw[e3] at f4; cases f4
 have s6:aF H H6:=gk.same p6 (Jw.trans s5) fm
 have e6:H6 l=some (.lst [.ref pe]):=gk.lst (n4.same s5) p6 _ _ (s5 _ _ (s4 _ _ e3))
 have a6:ak H6 ((aJ x c st 0).map gH) [.ref pe]:=by
  refine ak.cons (gk.at (n4.same s5) p6 (Ge _) (At.tup (Qi _ _ b3) (ak.cons (b1.mono Qi) (ak.cons (At.tup (Qi _ _ b2) (bH _)) (ak.cons At.non (ak.cons At.non ak.nil)))))) ak.nil
 have n6:gJ H6 m ((aJ x c st 0).map En.key):=p6.2
 clear p6 n4 k5 e5 b1 b2 b3 e3
 obtain⟨Wh,hWh⟩:∃Wh:Nat->St->Hp->Prop,∀mm σ H',Wh mm σ H'↔(∃(p:Nat) (ys:List V) (o8 o9 rn zR:Option V),σ=[some v,some u,some cv,some (YS bd),some (.int lim),some (.ref l),some (.ref m),some (.int p),o8,o9,rn,zR]/\mm=2000-p/\p<=(aJ x c st p).length/\((aJ x c st p).length=1\/((aJ x c st p).length:Int)<=lim)/\t_ x c st bd p 0/\H' l=some (.lst ys)/\ak H' ((aJ x c st p).map gH) ys/\gJ H' m ((aJ x c st p).map En.key)/\aF H H'):=⟨_,fun _ _ _=>oV⟩
 refine⟨Wh,⟨_,(hWh _ _ _).mpr ⟨0,_,_,_,_,_,rfl,rfl,fQ _,.inl rfl,fun p' c' h=>by omega,e6,a6,n6,s6⟩⟩,?_⟩
 clear e6 a6 n6 s6
 intro mm σ H7 hw7
 obtain⟨p,ys,o8,o9,rn,zR,rfl,hmm,hp,hlen,hnb,e7,a7,n7,s7⟩:=(hWh _ _ _).mp hw7
 walk_at "rd"
 refine⟨l,ys,rfl,.inl (dX.of e7),?_⟩
 have hyl:ys.length=(aJ x c st p).length:=by rw[a7.length,bR]
 have hlim:(aJ x c st p).length<=901:=by rcases hlen with z | z <;> omega
 refine⟨_,_,rfl,rfl,?_⟩
 by_cases c1:(p:Int)<ys.length
 ·rw[aL (gC c1)]
  have hp':p<(aJ x c st p).length:=by omega
  refine⟨_,fun σ' H' z=>z,?_⟩
  rw[Pb]
  walk_at "rd"
  obtain⟨y,y1,y2⟩:=lV a7 hp'
  have hE:=jJ hx hv hs p _ (oE hp').1
  have hcm:=Wn hE hW
  refine Ix.lst e7 (bx y1) ⟨cv,y,c,_,rfl,a3.mono s7,y2,hv,hE,by omega,fun lc H8 f8 s8 e8=>?_⟩
  have e8l:=s8 _ _ e7
  have lcl:lc≠l:=fun z=>by rw[z,e7] at f8; cases f8
  have flc:H lc=none:=aF.free s7 f8
  obtain⟨Pv,hPv⟩:∃Pv:Nat->St->Hp->Prop,∀i σ H',Pv i σ H'↔(∃(zs:List V) (o8 o9 rn zR:Option V),σ=[some v,some u,some cv,some (YS bd),some (.int lim),some (.ref l),some (.ref m),some (.int p),o8,o9,rn,zR]/\((cA x c st p i).length=1\/((cA x c st p i).length:Int)<=lim)/\t_ x c st bd p i/\H' l=some (.lst zs)/\ak H' ((cA x c st p i).map gH) zs/\gJ H' m ((cA x c st p i).map En.key)/\H' lc=some (.lst ((List.range (rB c (dY (aJ x c st p) p))).map fun i:Nat=>V.int i))/\aF H H'):=⟨_,fun _ _ _=>oV⟩
  refine LK.of e8 Pv ((hPv _ _ _).mpr ⟨_,_,_,_,_,rfl,hlen,hnb,e8l,a7.mono s8,n7.same s8,e8,s7.trans s8⟩) (fun i σ H' _ hh=>by obtain⟨_,_,_,_,_,_,_,_,_,_,_,z,_⟩:=(hPv _ _ _).mp hh; exact z) ?_ ?_
  ·intro i w σ H9 hw hw9
   obtain⟨zs,o8,o9,rn,zR,rfl,hl9,hb9,e9,a9,n9,c9,s9⟩:=(hPv _ _ _).mp hw9
   have hi:i<rB c (dY (aJ x c st p) p):=by
    have:=(iQ.mp hw).1
    simpa using this
   have ew:w=.int (i:Nat):=by
    rw[gM,List.getElem?_range hi] at hw
    exact(Option.some.inj hw).symm
   subst ew
   have hlz:zs.length=(cA x c st p i).length:=by rw[a9.length,bR]
   have pp:p<(cA x c st p i).length:=kI hp' qC
   have afz:(cA x c st p i).length<=901:=by rcases hl9 with z | z <;> omega
   obtain⟨y',y1',Zh⟩:=lV a9 pp
   rw[Vn hp'] at Zh
   walk_at "rd"
   refine Ix.lst e9 (bx y1') ⟨v,cv,y',x,c,_,i,rfl,a1.mono s9,a3.mono s9,Zh,hx,hn,hE,(by have:=hv.n; omega),fun pt v1 p2 ux lB b1 b2 b3=>⟨pt,_,rfl,cG.of b3,rfl,?_⟩⟩
   walk_at "rd"
   have hi':=hi
   generalize Yc:dY (aJ x c st p) p=e at hE hcm e8 c9 hi y2 Zh b1 b2 b3
   have afo:=s9.trans lB
   refine d8.of (fun σ' H'=>IW x bd e i=false/\aF ux H'/\σ'=[some v,some u,some cv,some (YS bd),some (.int lim),some (.ref l),some (.ref m),some (.int p),some (.int i),some v1,some (.ref p2),some (.int (Gx x e i))]) ?_ ?_
   rotate_left 1
   ·intro N sO
    walk_at "rd"
    refine⟨trivial,?_⟩
    cases bd with
    | none=>
     rw[bB (by decide)]
     exact sO _ _ ⟨rfl,aF.refl _,rfl⟩
    | some b=>
     rw[aL (by simp[YS])]
     refine⟨b,v1,_,_,rfl,b1,fun xQ GF=>⟨_,rfl,?_⟩⟩
     have eb:(decide ((N6 x e i).w>b) || decide (Gx x e i>0))=IW x (some b) e i:=rfl
     rw[eb]
     cases hbk:IW x (some b) e i with
     | false=>
      rw[bB (by decide)]
      exact sO _ _ ⟨hbk,GF,rfl⟩
     | true=>
      rw[aL rfl]
      have Ox:=lB.trans GF
      refine⟨l,zs,_,p,rfl,Ox _ _ e9,a9.mono Ox,pp,by omega,BW hp',fun r Ww f12 s12 Oi=>⟨(by decide),fun Xu Ou Wl nP Kv=>?_⟩⟩
      have hpl:=kO (BW (x:=x) (cv:=c) (st:=st) (c:=i) hp') (cA x c st p i).length p
      refine Ed.of (nP _ _ Oi) Kv (UT (by rw[bR]; show _+1<=1000; omega)) fun p14 YB YM Lr Oh=>⟨(by decide),fun Od Vt f15 Sg Og=>?_⟩
      have Ow:=Ox.trans s12
      have Zg:=Ow.trans nP
      have z15:=Zg.trans (Lr.trans Sg)
      refine qB hW p i ⟨hp',hi',hb9,by rw[Yc]; exact hbk,hl9⟩ _ p14 Vt (s9.trans z15) (aF.free (s9.trans Zg) YM) ?_ ⟨Od,l,zs,rfl,Og,fl,z15 _ _ e9,a9.mono z15⟩
      rw[jC]
      exact Sg _ _ Oh
   rintro σ' xQ ⟨hbk,GF,rfl⟩
   walk_at "rd"
   have hb':t_ x c st bd p (i+1):=fun p' c' h1 h2 h3=>by
    by_cases z:p'=p/\c'=i
    ·obtain⟨rfl,rfl⟩:=z
     rw[Yc]; exact hbk
    ·exact hb9 p' c' (by omega) h2 h3
   refine⟨(by decide),fun p12 Ww f12 s12 Oi=>?_⟩
   have Ow:=lB.trans (GF.trans s12)
   have Ox:=GF.trans s12
   have k12:oX Ww (sG x c e p i).key (.ref p12):=⟨HY _ _,At.tup Oi (ak.cons (b1.mono Ox) (ak.cons (At.tup (Ox _ _ b2) (bH _)) ak.nil))⟩
   refine⟨m,_,_,rfl,n9.same Ow,k12,?_⟩
   by_cases hk:(sG x c e p i).key∈(cA x c st p i).map En.key
   ·rw[gC hk,bB (by decide)]
    have ep:cA x c st p (i+1)=cA x c st p i:=by rw[kW,Yc,aL hk]
    refine(hPv _ _ _).mpr ?_
    rw[ep]
    exact⟨zs,_,_,_,_,rfl,hl9,hb',Ow _ _ e9,a9.mono Ow,n9.same Ow,(by rw[Yc]; exact Ow _ _ c9),s9.trans Ow⟩
   ·rw[gY hk,aL (by decide)]
    have ep:cA x c st p (i+1)=cA x c st p i++[sG x c e p i]:=by rw[kW,Yc,bB hk]
    refine⟨l,zs,lim,rfl,Ow _ _ e9,hl1,by omega,fun hroom Ou nP=>?_,fun hroom Ou nP YB Lr=>?_⟩
    ·have Zg:=Ow.trans nP
     have n13:=n9.same Zg
     refine⟨⟨m,_,rfl,n13⟩,(by decide),fun p14 YB YM Lr Oh=>?_⟩
     have Zf:=Zg.trans Lr
     have SN:=Ox.trans (nP.trans Lr)
     have n14:=n9.same Zf
     have k14:oX YB (sG x c e p i).key (.ref p14):=⟨HY _ _,At.tup Oh (ak.cons (b1.mono SN) (ak.cons (At.tup (SN _ _ b2) (bH _)) ak.nil))⟩
     refine⟨m,_,_,_,rfl,rfl,n14,by rw[bR]; omega,k14,fun Vt Od=>?_⟩
     have Og:=gk.lst n14 Od _ _ (Zf _ _ e9)
     have c15:=gk.lst n14 Od _ _ (Zf _ _ c9)
     have a15:ak Vt ((cA x c st p i).map gH) zs:=ak.tupS (gk.tup n14 Od) _ _ (sS _) (a9.mono Zf)
     have b15:At Vt (lC (N6 x e i)) v1:=gk.at n14 Od (Jf _) (b1.mono SN)
     have d15:=gk.tup n14 Od _ _ (SN _ _ b2)
     have Sg:aF H Vt:=gk.same Od (s9.trans Zf) fm
     have n15:=Od.2
     refine⟨.inl ⟨rfl,_,dX.of Og⟩,(by decide),fun p16 Wv f16 Ea Ve=>⟨l,zs,_,rfl,rfl,Ea _ _ Og,by rw[hlz]; exact bw (by omega),?_⟩⟩
     have aaK:=Ea _ _ Og
     have tk:∀b xs,Wv b=some (.tup xs)->upd Wv l (.lst (zs++[.ref p16])) b=some (.tup xs):=fun b xs hb=>by
      rw[aP (fun z=>by rw[z,aaK] at hb; cases hb)]; exact hb
     refine(hPv _ _ _).mpr ⟨zs++[.ref p16],_,_,_,_,rfl,.inr ?_,hb',az,?_,?_,?_,(Sg.trans Ea).d7 fl⟩
     ·rw[ep,fP]
      show((_+1:Nat):Int)<=lim
      omega
     ·rw[ep,jC]
      refine ak.tupS tk _ _ (by rw[<- List.map_singleton,<- jC]; exact sS _) ((a15.mono Ea).append (ak.cons ?_ ak.nil))
      exact At.tup Ve (ak.cons (b15.mono Ea) (ak.cons (At.tup (Ea _ _ d15) (bH _)) (ak.cons (At.int _) (ak.cons (At.int _) ak.nil))))
     ·rw[ep,jC]
      exact(n15.same Ea).abH aaK
     ·rw[aP lcl,Yc]; exact Ea _ _ c15
    ·exact qM hW p i ⟨hp',hi',hb',by rw[Yc]; exact hk,by omega⟩ YB (s9.trans (Ow.trans (Lr nP)))
  ·intro σ H9 hw9
   obtain⟨zs,o8,o9,rn,zR,rfl,hl9,hb9,e9,a9,n9,c9,s9⟩:=(hPv _ _ _).mp hw9
   rw[bR,JC] at hl9 hb9 a9 n9
   rw[<- qJ hp'] at hl9 a9 n9
   walk_at "rd"
   refine⟨_,rfl,_,_,rfl,rfl,_,?_,(hWh _ _ _).mpr ⟨p+1,zs,_,_,_,_,rfl,rfl,?_,hl9,fun p' c' h1 h2 h3=>?_,e9,a9,n9,s9⟩⟩
   ·omega
   ·have:=wJ (x:=x) (cv:=c) (st:=st) (show p<=p+1 by omega); omega
   ·by_cases z:p'=p
    ·subst z; exact hb9 _ c' (.inr ⟨rfl,h3⟩) h2 h3
    ·exact hb9 p' c' (.inl (by omega)) h2 h3
 ·rw[bB (by simpa using c1)]
  refine⟨(by decide),fun p8 H8 f8 s8 e8=>?_⟩
  have ep:(aJ x c st p).length=p:=by omega
  refine qD hW p ⟨ep,hnb,by rcases hlen with z | z <;> omega⟩ _ H8 (s7.trans s8) ⟨p8,l,ys,rfl,e8,fl,s8 _ _ e7,a7.mono s8⟩
variable {bf bu:Addr}
def PN (CM CW:Addr):Sp:=fun vs H Q E=>∃(v u cv:V) (x:cO) (st:cJ) (c:Cv) (lim:Int),vs=[v,u,cv,.int lim]/\At H (gZ x) v/\At H (lC st) u/\At H (CP c) cv/\iU x/\Dr x/\eV st/\yL c/\0<=lim/\lim<=900 /\
 (23<cF c (c.map (·.1))->∀H',aF H H'->E (.ref CW) none H') /\
 (cF c (c.map (·.1))<=23->∀n,fH x c st none lim n->∀l ys H',aF H H'->H l=none->H' l=some (.lst ys)->ak H' ((aJ x c st n).map gH) ys->Q (.ref l) H') /\
 (cF c (c.map (·.1))<=23->∀p cc,nM x c st none lim p cc->∀H',aF H H'->E (.ref CM) none H')
theorem Qf:aV ["post","stand","curve","limit"] ["post","stand","curve","limit"] (aH Qh):=(by walk_at "c")
theorem Xz {T:Addr} {tk:Tok} (F:xR K "led" "led" Qh f fd T 300 tk) (lA:GK P w K mg base k "walked" ["post","stand","curve","bound","limit"] (uW bf bu)) :
  bQ P w K mg base (my P w) (k+1) f fd ["post","stand","curve","limit"] (PN bf bu):=by
 refine F.YF Qf (by rintro vs H Q E ⟨v,u,cv,x,st,c,lim,rfl,_⟩; rfl) (fun cdv A outer s H vs Q E Nk hr h=>?_)
 obtain⟨v,u,cv,x,st,c,lim,rfl,a1,a2,a3,hx,hn,hs,hv,hl1,hl2,qW,qD,qM⟩:=h
 have ND:=Qf.nd
 refine⟨_,(aG (aX (aZ aO (pfe lA hr (aa (pv 0) (aa (pv 1) (aa (pv 2) (aa dR (aa (pv 3) aj)))))) ao (fun _ _=>rfl)))),?_⟩
 walk_at "rd"
 refine⟨v,u,cv,x,st,c,none,lim,rfl,a1,a2,a3,hx,hn,hs,hv,hl1,hl2,fun h H' s' H3 s3=>qW h H3 (s3 s'),fun h n D v' H' s' ⟨p,l,ys,e1,e2,e3,e4,e5⟩=>?_,fun h p cc Bk=>?_,fun h p cc M H' s' H3 s3=>qM h p cc M H3 (s3 s')⟩
 ·subst e1
  exact Ix.tup e2 (v:=.ref l) rfl (qD h n D l ys H' s' e3 e4 e5)
 ·exact absurd Bk.hk (by show ¬false=true; decide)
theorem J6 {H:Hp} {ds:List PyData} {v:V} (h:At H (.list ds) v):∃a xs,v=.ref a/\H a=some (.lst xs)/\ak H ds xs:=by unfold At at h; exact h
def SD:Nat->PyData->Prop
 | 0,_=>False
 | n+1,d=>(∃i,d=.int i)\/d=.none\/(∃t,d=.str t/\PyData.canLay0 (.str t)=true)\/(∃ds,d=.tuple ds/\ds.length<=1000/\∀e∈ds,SD n e)\/∃ds,d=.list ds/\ds.length<=1000/\∀e∈ds,SD n e
theorem SD.int {n:Nat} (i:Int):SD (n+1) (.int i):=.inl ⟨i,rfl⟩
theorem SD.none {n:Nat}:SD (n+1) .none:=.inr (.inl rfl)
theorem SD.str {n:Nat} {t:Str} (h:PyData.canLay0 (.str t)=true):SD (n+1) (.str t):=.inr (.inr (.inl ⟨t,rfl,h⟩))
theorem SD.tup {n:Nat} {ds:List PyData} (h:ds.length<=1000) (ha:∀e∈ds,SD n e):SD (n+1) (.tuple ds):=.inr (.inr (.inr (.inl ⟨ds,rfl,h,ha⟩)))
theorem SD.lst {n:Nat} {ds:List PyData} (h:ds.length<=1000) (ha:∀e∈ds,SD n e):SD (n+1) (.list ds):=.inr (.inr (.inr (.inr ⟨ds,rfl,h,ha⟩)))
theorem SD.ints {n:Nat} {l:List Int} (h:l.length<=1000):SD (n+2) (.tuple (l.map .int)):=SD.tup (by rw[bR]; exact h) fun e he=>by obtain⟨i,_,rfl⟩:=iK.mp he; exact SD.int i
theorem SD.stn {n:Nat} {st:cJ} (h:eV st):SD (n+4) (lC st):=SD.tup (by show 6<=1000; decide) fun e he=>by
 simp only[b7,jQ,or_false] at he
 rcases he with rfl | rfl | rfl | rfl | rfl | rfl
 ·exact SD.int _
 ·exact SD.int _
 ·exact SD.ints (by rw[h.c]; decide)
 ·exact SD.int _
 ·exact SD.int _
 ·exact SD.tup (by rw[bR,h.u]; decide) fun e he=>by
   obtain⟨u,hu,rfl⟩:=iK.mp he
   exact SD.ints (by rw[h.l u hu]; decide)
theorem SD.ent {n:Nat} {cv:Cv} {e:En} (hv:yL cv) (h:pU cv e):SD (n+5) (gH e):=by
 have h1:SD (n+4) (lC e.st):=SD.stn h.st
 have h2:SD (n+4) (.tuple (e.sp.map .int)):=SD.ints (by rw[h.sl]; have:=hv.n; omega)
 unfold gH frD
 refine SD.tup (by split <;> (show 4<=1000; decide)) fun d hd=>?_
 rcases oH.mp hd with z | z
 ·simp only[b7,jQ,or_false] at z
  rcases z with rfl | rfl
  ·exact h1
  ·exact h2
 ·split at z
  ·simp only[b7,jQ,or_false] at z
   rcases z with rfl | rfl <;> exact SD.none
  ·simp only[b7,jQ,or_false] at z
   rcases z with rfl | rfl <;> exact SD.int _
theorem SD.ents {n:Nat} {cv:Cv} {es:List En} (hv:yL cv) (hl:es.length<=1000) (h:∀e∈es,pU cv e):SD (n+6) (.list (es.map gH)):=SD.lst (by rw[bR]; exact hl) fun d hd=>by
 obtain⟨e,he,rfl⟩:=iK.mp hd
 exact SD.ent hv (h e he)
theorem SD.data:∀(n:Nat) (d:PyData),SD n d->PyData.hasDict d=false/\PyData.canLay0 d=true/\PyData.depth d<=n
 | 0,_,h=>h.elim
 | n+1,d,h=>by
  have all:∀ds:List PyData,(∀e∈ds,SD n e)->PyData.hasDictAll ds=false/\PyData.canLayAll0 ds=true/\PyData.depthAll ds<=n:=fun ds=>by
   induction ds with
   | nil=>exact fun _=>⟨rfl,rfl,fQ _⟩
   | cons e r ih=>
    intro ha
    obtain⟨h1,h2,h3⟩:=ih fun e he=>ha e (iM _ he)
    obtain⟨k1,k2,k3⟩:=SD.data n e (ha e jl)
    refine⟨?_,?_,?_⟩
    ·unfold PyData.hasDictAll; rw[k1,h1]; rfl
    ·unfold PyData.canLayAll0; rw[k2,h2]; rfl
    ·unfold PyData.depthAll; exact Nat.max_le.mpr ⟨k3,h3⟩
  rcases h with⟨i,rfl⟩ | rfl | ⟨t,rfl,hc⟩ | ⟨ds,rfl,hn,hds⟩ | ⟨ds,rfl,hn,hds⟩
  ·exact⟨rfl,rfl,fQ _⟩
  ·exact⟨rfl,rfl,fQ _⟩
  ·exact⟨rfl,hc,fQ _⟩
  ·obtain⟨h1,h2,h3⟩:=all ds hds
   exact⟨by unfold PyData.hasDict; exact h1,by unfold PyData.canLay0; exact h2,by unfold PyData.depth; omega⟩
  ·obtain⟨h1,h2,h3⟩:=all ds hds
   exact⟨by unfold PyData.hasDict; exact h1,by unfold PyData.canLay0; exact h2,by unfold PyData.depth; omega⟩
def Px (n:Nat):Sp:=fun vs H Q _=>∃(v u:V) (d d':PyData),vs=[v,u]/\At H d v/\At H d' u/\SD n d/\SD n d'/\n<=60/\∀b H',(b=true↔d=d')->aF H H'->Q (.bl b) H'
theorem Sm.of {n:Nat} {v u:V} {d:PyData} {H:Hp} {Q:VK} {E:XK} (h1:At H d v) (h2:At H d u) (h3:SD n d) (hn:n<=60) (q:∀H',aF H H'->Q (.bl true) H'):Px n [v,u] H Q E:=⟨v,u,d,d,rfl,h1,h2,h3,h3,hn,fun b H' hb s=>by rw[hb.mpr rfl]; exact q H' s⟩
theorem rH:aV ["_law_found","_law_due"] ["_law_found","_law_due"] (aH qm):=(by walk_at "c")
theorem HN (F:iW K "_law_same" "_law_same" qm f fd):bQ P w K mg base iH (k+1) f fd ["_law_found","_law_due"] (Px 0):=by
 refine F.ok rH (by rintro vs H Q E ⟨v,u,d,d',rfl,_⟩; rfl) (fun cdv A outer s H vs Q E hr h=>?_)
 obtain⟨v,u,d,d',rfl,_,_,h,_⟩:=h
 exact h.elim
theorem pR {G:Hp}:∀{bs:List Bool} {xs:List V},ak G (bs.map PyData.bool) xs->xs=bs.map V.bl
 | [],xs,h=>by unfold ak at h; exact h
 | b::bs,xs,h=>by
  obtain⟨x,r,rfl,h1,h2⟩:=ak.bh (d:=PyData.bool b) (ds:=bs.map PyData.bool) h
  unfold At at h1
  rw[h1,pR h2]; rfl
noncomputable def Oe (a b:PyData):Bool:=@decide (a=b) (Classical.propDecidable _)
theorem CJ {a b:PyData}:Oe a b=true↔a=b:=by unfold Oe; exact @decide_eq_true_iff _ (Classical.propDecidable _)
theorem RG {a b:PyData} {c:Bool} (h:c=true↔a=b):c=Oe a b:=by
 cases c with
 | true=>exact(CJ.mpr (h.mp rfl)).symm
 | false=>cases e:Oe a b with
  | true=>exact absurd (h.mpr (CJ.mp e)) (by decide)
  | false=>rfl
theorem Az:∀{ds es:List PyData},ds.length=es.length->((List.zipWith Oe ds es).all id=true↔ds=es)
 | [],[],_=>by simp
 | a::r,b::s,h=>by
  have ih:=Az (ds:=r) (es:=s) (by simpa using h)
  rw[List.zipWith_cons_cons,List.all_cons,Bx,ih]
  show Oe a b=true/\_↔_
  rw[CJ,List.cons.injEq]
theorem g_ (n:Nat) (F:iW K "_law_same" "_law_same" qm f fd) (B:Bi mg) (nG:Ct P w K mg base k "_law_same" ["_law_found","_law_due"] (Px n)):bQ P w K mg base iH (k+1) f fd ["_law_found","_law_due"] (Px (n+1)):=by
 refine F.ok rH (by rintro vs H Q E ⟨v,u,d,d',rfl,_⟩; rfl) (fun cdv A outer s H vs Q E hr h=>?_)
 obtain⟨v,u,d,d',rfl,hv,hu,hd,hd',afT,q⟩:=h
 have ND:=rH.nd
 refine⟨_,(aq (dJ (jR (pb X8 B.isinstance bZ (aa (pv 1) (aa (bj (aa (pty (by rfl) B.list jd) (aa (pty (by rfl) B.tuple cH) aj))) aj)))) (aq (dJ (PW.pt (zP (a_ JX (pb Kl B.isinstance bZ (aa (pv 0) (aa (pty (by rfl) B.list jd) aj))) (pb Kl B.isinstance bZ (aa (pv 1) (aa (pty (by rfl) B.list jd) aj))) (aR _)) (rZ (a_ JX (pb Kh B.isinstance bZ (aa (pv 0) (aa (pty (by rfl) B.tuple cH) aj))) (pb Kh B.isinstance bZ (aa (pv 1) (aa (pty (by rfl) B.tuple cH) aj))) (aR _))))) (aG (aX qz)) bT) (aG (aX (BV (dC iV (pb (dW (K:=K) rfl) B.len jy (aa (pv 0) aj)) (pb (dW (K:=K) rfl) B.len jy (aa (pv 1) aj)) (aR _)) (vY (pb (NP rfl) B.all Yn (aa (gD (nt:=2) (N':=["_law_one","_law_other"]) (js:=[]) rfl (Ub (K:=K) rfl B.zip (aa (pv 0) (aa (pv 1) aj))) j6.of (fun fp s' H'=>(bJ (K:=K) (n:=2) rfl rfl (aC (aD (i:=0) (by show List.Nodup (["_law_one","_law_other"]:List Str); decide) rfl (.inl (je rfl)) (.inr (je rfl))) (aC (aD (i:=1) (by show List.Nodup (["_law_one","_law_other"]:List Str); decide) rfl (.inl (je rfl)) (.inr (je rfl))) bI)))) (fun fp s' H'=>jc) (fun fp s' H'=>(pf nG hr (aa (pv 0) (aa (pv 1) aj))))) aj))))))) bT) (aq (dJ (PW.pt (zP (a_ QQ (pv 1) dR (aR _)) (rZ (jR (pb Cu B.isinstance bZ (aa (pv 1) (aa (pty (by rfl) B.str IV) aj))))))) (aG (aX (BV (dC (HH hr.units) (pv 0) (pv 1) (aR _)) (vY (dC iV (pb Cu B.isinstance bZ (aa (pv 0) (aa (pty (by rfl) B.str IV) aj))) (pb Cu B.isinstance bZ (aa (pv 1) (aa (pty (by rfl) B.str IV) aj))) (aR _)))))) bT) (aG (aX (BV (pb U_ B.isinstance bZ (aa (pv 0) (aa (pty (by rfl) B.int tE) aj))) (BV (dC iV (pb FQ B.isinstance bZ (aa (pv 0) (aa (pty (by rfl) B.bool KY) aj))) (pb FQ B.isinstance bZ (aa (pv 1) (aa (pty (by rfl) B.bool KY) aj))) (aR _)) (vY (dC (HH hr.units) (pv 0) (pv 1) (aR _))))))))),?_⟩
 walk_at "rd"
 refine⟨(by decide),fun pt H1 f1 s1 e1=>?_⟩
 refine⟨_,d',pt,rfl,hu.mono s1,e1,?_⟩
 have hv1:=hv.mono s1
 have hu1:=hu.mono s1
 obtain⟨D1,D2,D3⟩:=SD.data _ _ hd
 obtain⟨E1,E2,E3⟩:=SD.data _ _ hd'
 have no:¬d=d'->Q (.bl false) H1:=fun h=>q false H1 ⟨fun z=>(by cases z),fun z=>absurd z h⟩ s1
 rcases hd' with⟨i,rfl⟩ | rfl | ⟨t,rfl,hc⟩ | ⟨ds',rfl,hn',Yd⟩ | ⟨ds',rfl,hn',Yd⟩
 ·have eu:u=.int i:=by unfold At at hu; exact hu
  subst eu
  rw[bB (by exact fun z=>by cases z)]
  refine⟨trivial,?_⟩
  rw[bB (by rw[decide_eq_true_eq]; exact fun z=>by cases z)]
  refine GD.of hu1 ⟨_,rfl,?_⟩
  rw[bB (by exact fun z=>by cases z)]
  refine GD.of hv1 ⟨_,rfl,?_⟩
  rcases hd with⟨j,rfl⟩ | rfl | ⟨t,rfl,hc⟩ | ⟨ds,rfl,hn,hds⟩ | ⟨ds,rfl,hn,hds⟩
  ·rw[aL (by rfl)]
   refine GD.of hv1 (GD.of hu1 ⟨rfl,?_⟩)
   refine⟨_,rfl,?_⟩
   rw[aL (by rw[decide_eq_true_eq]; rfl)]
   refine⟨_,_,hv1,hu1,rfl,rfl,rfl,rfl,by show 0<=60; decide,?_⟩
   exact q _ H1 (by show(j==i)=true↔_; simp) s1
  all_goals
   rw[bB (by exact fun z=>by cases z)]
   exact no fun z=>by cases z
 ·have eu:u=.non:=by unfold At at hu; exact hu
  subst eu
  rw[bB (by exact fun z=>by cases z)]
  refine⟨trivial,?_⟩
  rw[aL (by rfl)]
  refine⟨_,_,hv1,hu1,D1,E1,D2,E2,by omega,?_⟩
  rcases hd with⟨j,rfl⟩ | rfl | ⟨t,rfl,hc⟩ | ⟨ds,rfl,hn,hds⟩ | ⟨ds,rfl,hn,hds⟩
  ·rw[bB (by exact fun z=>by cases z)]; exact no fun z=>by cases z
  ·rw[aL (by rfl)]
   refine GD.of hv1 (GD.of hu1 ⟨rfl,?_⟩)
   have e:decide (V.bl (isStr .none)=V.bl (isStr .none))=true:=by rw[decide_eq_true_eq]
   rw[e]
   exact q true _ (by simp) s1
  ·rw[bB (by exact fun z=>by cases z)]; exact no fun z=>by cases z
  ·rw[bB (by exact fun z=>by cases z)]; exact no fun z=>by cases z
  ·rw[bB (by exact fun z=>by cases z)]; exact no fun z=>by cases z
 ·have eu:u=.str t:=by unfold At at hu; exact hu
  subst eu
  rw[bB (by exact fun z=>by cases z)]
  refine⟨trivial,?_⟩
  rw[bB (by rw[decide_eq_true_eq]; exact fun z=>by cases z)]
  refine GD.of hu1 ⟨_,rfl,?_⟩
  rw[aL (by rfl)]
  refine⟨_,_,hv1,hu1,D1,E1,D2,E2,by omega,?_⟩
  rcases hd with⟨j,rfl⟩ | rfl | ⟨t',rfl,hc'⟩ | ⟨ds,rfl,hn,hds⟩ | ⟨ds,rfl,hn,hds⟩
  ·rw[bB (by exact fun z=>by cases z)]; exact no fun z=>by cases z
  ·rw[bB (by exact fun z=>by cases z)]; exact no fun z=>by cases z
  ·by_cases c:t'=t
   ·subst c
    rw[SeqAt.eqv_refl _ hc,aL rfl]
    refine GD.of hv1 (GD.of hu1 ⟨rfl,?_⟩)
    have e:decide (V.bl (isStr (.str t'))=V.bl (isStr (.str t')))=true:=by rw[decide_eq_true_eq]
    rw[e]
    exact q true _ (by simp) s1
   ·rw[bB (by show ¬((t'==t)=true); simpa using c)]
    exact no fun z=>by cases z; exact c rfl
  ·rw[bB (by exact fun z=>by cases z)]; exact no fun z=>by cases z
  ·rw[bB (by exact fun z=>by cases z)]; exact no fun z=>by cases z
 ·rw[aL (by rfl)]
  refine GD.of hv1 (GD.of hu1 ⟨rfl,_,rfl,?_⟩)
  rcases hd with⟨j,rfl⟩ | rfl | ⟨t,rfl,hc⟩ | ⟨ds,rfl,hn,hds⟩ | ⟨ds,rfl,hn,hds⟩
  rotate_right 1
  ·rw[aL (by show(!decide (V.bl true=V.bl false))=true; decide)]
   exact no fun z=>by cases z
  all_goals
   rw[bB (by show ¬((!decide (V.bl false=V.bl false))=true); decide)]
   refine GD.of hv1 (GD.of hu1 ⟨rfl,_,rfl,?_⟩)
  ·rw[aL (by show(!decide (V.bl false=V.bl true))=true; decide)]; exact no fun z=>by cases z
  ·rw[aL (by show(!decide (V.bl false=V.bl true))=true; decide)]; exact no fun z=>by cases z
  ·rw[aL (by show(!decide (V.bl false=V.bl true))=true; decide)]; exact no fun z=>by cases z
  rw[bB (by show ¬((!decide (V.bl true=V.bl true))=true); decide)]
  obtain⟨a,xs,rfl,ha,hxs⟩:=bC hv1
  obtain⟨b,ys,rfl,hb,hys⟩:=bC hu1
  have lx:xs.length=ds.length:=hxs.length
  have ly:ys.length=ds'.length:=hys.length
  refine⟨a,xs,rfl,.inr (cG.of ha),b,ys,rfl,.inr (cG.of hb),?_⟩
  rw[lx,ly]
  refine⟨rfl,_,rfl,?_⟩
  by_cases cl:ds.length=ds'.length
  ·rw[aL (by rw[decide_eq_true_eq,cl])]
   rw[yR]
   refine .inl ?_
   have lz:(List.zipWith Oe ds ds').length=ds.length:=by rw[ye,cl,zr]
   refine Ah (es:=(List.zipWith Oe ds ds').map PyData.bool) (fun R hR=>?_) ha hb (by rw[bR,lz,lx]) (by rw[bR,lz,ly,cl]) (by rw[bR,lz]; exact jB (bw (by omega))) (dw.mpr fun d hd=>by obtain⟨z,_,rfl⟩:=iK.mp hd; rfl) (fun j x y e H' hx hy he s' R hR=>?_) (fun acc zs H' s' hacc hl hA=>?_)
   ·walk_at "rd"; exact hR
   ·obtain⟨d1,e1,a1⟩:=hxs.get hx
    obtain⟨d2,e2,a2⟩:=hys.get hy
    have ee:e=.bool (Oe d1 d2):=by
     rw[gM,LQ,e1,e2] at he
     exact(Option.some.inj he).symm
    walk_at "rd"
    refine⟨x,y,d1,d2,rfl,a1.mono s',a2.mono s',hds _ (jm e1),Yd _ (jm e2),by omega,fun b cZ hb s''=>hR _ _ s'' ?_⟩
    rw[ee,RG hb]
    exact At.bool _
   ·cases pR hA
    refine⟨acc,_,rfl,hl,?_⟩
    exact q _ H' (by rw[Az cl]; exact⟨fun z=>by rw[z],fun z=>by cases z; rfl⟩) (s1.trans s')
  ·rw[bB (by rw[decide_eq_true_eq]; exact fun z=>cl (by exact_mod_cast V.int.inj z))]
   exact no fun z=>by cases z; exact cl rfl
 ·rw[aL (by rfl)]
  refine GD.of hv1 (GD.of hu1 ⟨rfl,_,rfl,?_⟩)
  rcases hd with⟨j,rfl⟩ | rfl | ⟨t,rfl,hc⟩ | ⟨ds,rfl,hn,hds⟩ | ⟨ds,rfl,hn,hds⟩
  ·rw[aL (by show(!decide (V.bl false=V.bl true))=true; decide)]; exact no fun z=>by cases z
  ·rw[aL (by show(!decide (V.bl false=V.bl true))=true; decide)]; exact no fun z=>by cases z
  ·rw[aL (by show(!decide (V.bl false=V.bl true))=true; decide)]; exact no fun z=>by cases z
  ·rw[aL (by show(!decide (V.bl false=V.bl true))=true; decide)]; exact no fun z=>by cases z
  rw[bB (by show ¬((!decide (V.bl true=V.bl true))=true); decide)]
  refine GD.of hv1 (GD.of hu1 ⟨rfl,_,rfl,?_⟩)
  rw[bB (by show ¬((!decide (V.bl false=V.bl false))=true); decide)]
  obtain⟨a,xs,rfl,ha,hxs⟩:=J6 hv1
  obtain⟨b,ys,rfl,hb,hys⟩:=J6 hu1
  have lx:xs.length=ds.length:=hxs.length
  have ly:ys.length=ds'.length:=hys.length
  refine⟨a,xs,rfl,.inl (dX.of ha),b,ys,rfl,.inl (dX.of hb),?_⟩
  rw[lx,ly]
  refine⟨rfl,_,rfl,?_⟩
  by_cases cl:ds.length=ds'.length
  ·rw[aL (by rw[decide_eq_true_eq,cl])]
   rw[yR]
   refine .inr ?_
   have lz:(List.zipWith Oe ds ds').length=ds.length:=by rw[ye,cl,zr]
   refine Nr (es:=(List.zipWith Oe ds ds').map PyData.bool) (fun R hR=>?_) ha hb (by rw[bR,lz,lx]) (by rw[bR,lz,ly,cl]) (by rw[bR,lz]; exact jB (bw (by omega))) (dw.mpr fun d hd=>by obtain⟨z,_,rfl⟩:=iK.mp hd; rfl) (fun j x y e H' hx hy he s' R hR=>?_) (fun acc zs H' s' hacc hl hA=>?_)
   ·walk_at "rd"; exact hR
   ·obtain⟨d1,e1,a1⟩:=hxs.get hx
    obtain⟨d2,e2,a2⟩:=hys.get hy
    have ee:e=.bool (Oe d1 d2):=by
     rw[gM,LQ,e1,e2] at he
     exact(Option.some.inj he).symm
    walk_at "rd"
    refine⟨x,y,d1,d2,rfl,a1.mono s',a2.mono s',hds _ (jm e1),Yd _ (jm e2),by omega,fun b cZ hb s''=>hR _ _ s'' ?_⟩
    rw[ee,RG hb]
    exact At.bool _
   ·cases pR hA
    refine⟨acc,_,rfl,hl,?_⟩
    exact q _ H' (by rw[Az cl]; exact⟨fun z=>by rw[z],fun z=>by cases z; rfl⟩) (s1.trans s')
  ·rw[bB (by rw[decide_eq_true_eq]; exact fun z=>cl (by exact_mod_cast V.int.inj z))]
   exact no fun z=>by cases z; exact cl rfl
def Jh:Sp:=fun vs H Q _=>∃(a:Addr) (n:Nat),vs=[.ref a]/\Tp H a n/\n<=100000000/\∀p x H',PsT x->At (hid a H') (gZ x) (.ref p)->Tp H' a (n+400)->SX a H H'->Q (.ref p) H'
theorem lX:aV ["_law_tape_here","_law_least","_law_rules","_law_hands","_law_rests","_law_late","_law_every","_law_k"] ["_law_tape_here"] (aH jh):=(by walk_at "c")
theorem uh (F:iW K "_law_small_post" "_law_small_post" jh f fd) (B:Bi mg) (bA:Ct P w K mg base k "_law_draw" ["_law_tape_here","_law_many"] oY) (Vl:Ct P w K mg base k "_law_row" ["_law_tape_here"] Hh) :
  bQ P w K mg base iH (k+1) f fd ["_law_tape_here"] Jh:=by
 refine F.ok lX (by rintro vs H Q E ⟨a,n,rfl,_⟩; rfl) (fun cdv A outer s H vs Q E hr h=>?_)
 obtain⟨a,n,rfl,tp,hn,q⟩:=h
 have ND:=lX.nd
 refine⟨_,(aq (pF (i:=1) (j:=2) rfl ND rfl rfl (by decide) rfl rfl (aa (pf bA hr (aa (pv 0) (aa ao aj))) (aa (b8 aj) aj)) (by rfl)) (aq (aW (i:=3) ND rfl (by walk_at "o") (bj (aa (pv 1) (aa (aM bD (aM bD (pv 1) ao) (pf bA hr (aa (pv 0) (aa ao aj)))) aj)))) (aq (aW (i:=4) ND rfl (by walk_at "o") (aZ aO (b8 (aa (bj (aa ao (aa ao aj))) (aa (bj (aa ao (aa ao aj))) (aa (bj (aa ao (aa ao aj))) (aa (bj (aa ao (aa ao aj))) aj))))) (pf bA hr (aa (pv 0) (aa ao aj))) (fun _ _=>rfl))) (aq (pF (i:=5) (j:=6) rfl ND rfl rfl (by decide) rfl rfl (aa (aZ aO (b8 (aa ao (aa ao (aa ao (aa ao aj))))) (pf bA hr (aa (pv 0) (aa ao aj))) (fun _ _=>rfl)) (aa (aZ aO (b8 (aa ao (aa ao (aa ao (aa ao aj))))) (pf bA hr (aa (pv 0) (aa ao aj))) (fun _ _=>rfl)) aj)) (by rfl)) (aq (g8 PassesOwn.never rfl (cY (by rfl) B.range (aa (pf bA hr (aa (pv 0) (aa ao aj))) aj)) (aD (i:=7) ND rfl (by walk_at "o")) (aG (iZ (mZ (K:=K) rfl PySem.F.plainAttrs_list PySem.F.slot_list_append PySem.F.type_list_append fZ (pv 2) (aa (pt (cM) B.tuple cH (aa (iw (N':=["_law_j","_law_tape_here"]) (js:=[0]) rfl (cY (by rfl) B.range (aa (aM bD ao (pf bA hr (aa (pv 0) (aa ao aj)))) aj)) uO.mk1 rfl (by decide) rfl (fun fp s' H'=>(pf Vl hr (aa (pv 1) aj)))) aj)) aj))))) (aG (aX (bj (aa (aM bD ao (pf bA hr (aa (pv 0) (aa ao aj)))) (aa (aM bD ao (pf bA hr (aa (pv 0) (aa ao aj)))) (aa (pv 3) (aa (pv 5) (aa (pv 6) (aa (pv 4) (aa (pt (cM) B.tuple cH (aa (pv 2) aj)) aj))))))))))))))),?_⟩
 walk_at "rd"
 refine gw.of tp (by omega) (by decide) (by decide) fun lo H1 l1 u1 t1 s1=>⟨fQ _,fun p H6 f6 s6 e6'=>⟨_,_,rfl,?_⟩⟩
 have pa:p≠a:=t1.ne f6
 have t6:=t1.same s6
 try walk_at "rd"
 refine gw.of t6 (by omega) (by decide) (by decide) fun y8 H8 l8 u8 t8 s8=>⟨_,_,rfl,rfl,(by decide),fun p9 H9 f9 s9 e9=>?_⟩
 have n9:=t8.ne f9
 have t9:=t8.same s9
 refine⟨(by decide),fun q1 G1 g1 r1 d1=>⟨(by decide),fun q2 G2 g2 r2 d2=>⟨(by decide),fun q3 G3 g3 r3 d3=>⟨(by decide),fun q4 G4 g4 r4 d4=>⟨(by decide),fun q5 G5 g5 r5 d5=>?_⟩⟩⟩⟩⟩
 have m1:=t9.ne g1
 have m2:=(t9.same r1).ne g2
 have m3:=((t9.same r1).same r2).ne g3
 have m4:=(((t9.same r1).same r2).same r3).ne g4
 have m5:=((((t9.same r1).same r2).same r3).same r4).ne g5
 have r15:=r1.trans (r2.trans (r3.trans (r4.trans r5)))
 have hp9:H9 p=some (.lst []):=(s8.trans (SX.of s9)).get pa e6'
 refine gw.of (t9.same r15) (by omega) (by decide) (by decide) fun y10 ux l10 u10 W0 lB=>?_
 have pk:∃(qq:Addr) (u d:Int),Dq [V.ref q1,V.ref q2,V.ref q3,V.ref q4] y10=some (.ref qq)/\qq≠a/\ux qq=some (.tup [.int u,.int d])/\(0<=u/\u<=9)/\(0<=d/\d<=9):=by
  have hy:y10=0\/y10=1\/y10=2\/y10=3:=by omega
  rcases hy with rfl | rfl | rfl | rfl
  ·exact⟨q1,0,0,rfl,m1,lB.get m1 ((r2.trans (r3.trans (r4.trans r5))) _ _ d1),by decide,by decide⟩
  ·exact⟨q2,1,0,rfl,m2,lB.get m2 ((r3.trans (r4.trans r5)) _ _ d2),by decide,by decide⟩
  ·exact⟨q3,0,1,rfl,m3,lB.get m3 ((r4.trans r5) _ _ d3),by decide,by decide⟩
  ·exact⟨q4,2,1,rfl,m4,lB.get m4 (r5 _ _ d4),by decide,by decide⟩
 obtain⟨qq,ru,rd,hq1,hq2,hq3,hq4,hq5⟩:=pk
 have mq:qq≠p:=fun z=>by
  rw[z,((SX.of r15).trans lB).get pa hp9] at hq3
  cases hq3
 have m9:p9≠p:=fun z=>by rw[z] at e9; rw[e9] at hp9; cases hp9
 refine Ix.lst (lB.get m5 d5) hq1 ?_
 refine⟨(by decide),fun p11 xQ f11 GF Kw=>gw.of (W0.same GF) (by omega) (by decide) (by decide) fun y12 Ww l12 u12 t12 s12=>?_⟩
 have n11:=W0.ne f11
 obtain⟨la,hla,ela⟩:=jf (ts:=[0,1,0,2]) l12 u12
 have hla':0<=la/\la<=4:=by
  simp only[b7,jQ,or_false] at hla
  rcases hla with rfl | rfl | rfl | rfl <;> decide
 refine Ix.lst (s12.get n11 Kw) ela ?_
 refine⟨(by decide),fun Xu Ou Wl nP Kv=>gw.of (t12.same nP) (by omega) (by decide) (by decide) fun y14 YB l14 u14 t14 Jw=>?_⟩
 have n13:=t12.ne Wl
 obtain⟨ev,hev,eev⟩:=jf (ts:=[1,2,1,3]) l14 u14
 have acx:1<=ev/\ev<=6:=by
  simp only[b7,jQ,or_false] at hev
  rcases hev with rfl | rfl | rfl | rfl <;> decide
 refine Ix.lst (Jw.get n13 Kv) eev ⟨_,_,rfl,?_⟩
 try walk_at "rd"
 show Dw _ _ _ _ _ _
 rw[Dv]
 walk_at "rd"
 refine gw.of t14 (by omega) (by decide) (by decide) fun m H20 l20 u20 t20 s20=>?_
 have z10:SX a ux H20:=(SX.of GF).trans (s12.trans ((SX.of nP).trans (Jw.trans s20)))
 have z9:SX a H9 H20:=(SX.of r15).trans (lB.trans z10)
 have z6:SX a H6 H20:=s8.trans ((SX.of s9).trans z9)
 have xx:SX a H H6:=s1.trans (SX.of s6)
 have fp:H p=none:=by
  cases e:H p with
  | none=>rfl
  | some o=>exact absurd (s1.get pa e) (by rw[f6]; simp)
 refine FK.of (n:=m.toNat) (by omega) (by omega) (fun i σ H'=>∃(dZ:List (List fX)) (ys:List V) (o3:Option V),σ=[some (.ref a),some (.int lo),some (.ref p),some (.ref p9),some (.ref qq),some (.int la),some (.int ev),o3]/\dZ.length=i/\ys.length=i/\(∀rs∈dZ,aaR rs/\∀r∈rs,r.n<=1000000000000)/\H' p=some (.lst ys)/\ak (hid p (hid a H')) (dZ.map qp) ys/\Tp H' a (n+20+60*i)/\SX a H H'/\H' p9=some (.tup [.int lo,.int (lo+1+y8)])/\H' qq=some (.tup [.int ru,.int rd]))
  ⟨[],[],_,rfl,rfl,rfl,fun d h=>by simp at h,z6.get pa e6',ak.nil,t20.mono (by omega),xx.trans z6,z9.get n9 e9,z10.get hq2 hq3⟩ ?_ ?_
 ·rintro i σ H3 hi ⟨dZ,ys,o3,rfl,ld,ly,od,h3,a3,t3,s3,z8,Ox⟩
  walk_at "rd"
  refine⟨.inl ⟨rfl,_,dX.of h3⟩,?_⟩
  rw[j8]
  walk_at "rd"
  refine gw.of t3 (by omega) (by decide) (by decide) fun r H4 l4 u4 t4 s4=>?_
  have h4:=s4.get pa h3
  walk_at "rd"
  refine CK.of (n:=(1+r).toNat) (by omega) (by omega) fun acc hacc=>?_
  have ca:acc≠a:=t4.ne hacc
  have cp:acc≠p:=fun z=>by subst z; rw[hacc] at h4; cases h4
  refine⟨fun j zs H'=>∃es:List fX,es.length=j/\zs.length=j/\(∀d∈es,R6 d/\d.n<=1000000000000)/\ak (hid acc (hid a H')) (es.map pq) zs/\H' acc=some (.lst zs)/\Tp H' a (n+20+60*i+1+12*j)/\SX a H4 H',?_,?_,?_⟩
  ·exact⟨[],rfl,rfl,fun d h=>by simp at h,ak.nil,az,t4.d7 ca,(SX.refl a H4).d7 hacc ca⟩
  ·rintro j zs H5 hj ⟨es,le,lz,oe,a5,c5,t5,s5⟩
   show pW _ _ _ _ [some _,some (.ref a)] H5 _
   walk_at "rd"
   refine adz.of t5 (by omega) fun v d H6 rk a6 t6 s6=>?_
   have c6:=s6.get ca c5
   have c6':hid a H6 acc=some (.lst zs):=by rw[bV ca]; exact c6
   refine⟨c6,(by rw[lz]; exact bw (by omega)),es++[d],by rw[fP,le]; rfl,by rw[fP,lz]; rfl,fun x hx=>?_,?_,az,?_,?_⟩
   ·rcases oH.mp hx with z | z
    ·exact oe x z
    ·rw[fU.mp z]; exact rk
   ·rw[dH ca,gF,jC]
    exact(a5.mono (aF.hid s6)).append (ak.cons (At.sH c6' _ v (Tu d) a6) ak.nil)
   ·exact(t6.d7 ca).mono (by omega)
   ·exact(s5.trans s6).d7 hacc ca
  ·rintro zs H6 ⟨es,le,lz,oe,a6,c6,t6,s6⟩
   have h6:=s6.get pa h4
   refine⟨acc,zs,rfl,c6,fun l hl=>?_⟩
   have la:l≠a:=t6.ne hl
   have lp:l≠p:=fun z=>by subst z; rw[hl] at h6; cases h6
   refine⟨p,ys,_,rfl,rfl,by rw[aP (Ne.symm lp)]; exact h6,by rw[ly]; exact bw (by omega),?_⟩
   have A1:At (hid a (upd H6 l (.tup zs))) (qp es) (.ref l):=by
    rw[dH la]
    have fr:hid a H6 l=none:=by rw[bV la]; exact hl
    exact At.tup az ((a6.mono cX).mono (aK fr _))
   have h7:hid a (upd H6 l (.tup zs)) p=some (.lst ys):=by rw[bV pa,aP (Ne.symm lp)]; exact h6
   have Tq:SX a H3 (upd H6 l (.tup zs)):=(s4.trans s6).trans (SX.of (aK hl _))
   refine⟨dZ++[es],ys++[.ref l],_,rfl,by rw[fP,ld]; rfl,by rw[fP,ly]; rfl,fun x hx=>?_,az,?_,?_,?_,?_,?_⟩
   ·rcases oH.mp hx with z | z
    ·exact od x z
    ·rw[fU.mp z]; exact⟨⟨by omega,by omega,fun r hr=>(oe r hr).1⟩,fun r hr=>(oe r hr).2⟩
   ·rw[dH pa,gF,jC]
    exact(a3.mono (aF.hid Tq)).append (ak.cons (At.sH h7 _ _ (Qk es) A1) ak.nil)
   ·exact((t6.d7 la).d7 pa).mono (by omega)
   ·exact(s3.trans Tq).d7 fp pa
   ·rw[aP m9]; exact Tq.get n9 z8
   ·rw[aP mq]; exact Tq.get hq2 Ox
 ·rintro σ H3 ⟨dZ,ys,o3,rfl,ld,ly,od,h3,a3,t3,s3,z8,Ox⟩
  walk_at "rd"
  refine gw.of t3 (by omega) (by decide) (by decide) fun y1 G1 l1' u1' t1' s1'=>⟨_,_,rfl,rfl,gw.of t1' (by omega) (by decide) (by decide) fun y2 G2 l2 u2 t2 s2=>⟨_,_,rfl,rfl,?_⟩⟩
  have x32:=s1'.trans s2
  have h2:=x32.get pa h3
  have a2:ak (hid p (hid a G2)) (dZ.map qp) ys:=a3.mono (aF.hid x32)
  have z8':=x32.get n9 z8
  have abD:=x32.get hq2 Ox
  refine⟨p,ys,rfl,h2,fun l hl=>?_⟩
  have Wd:l≠a:=t2.ne hl
  have A1:At (hid a (upd G2 l (.tup ys))) (Ho dZ) (.ref l):=by
   rw[dH Wd]
   have fr:hid a G2 l=none:=by rw[bV Wd]; exact hl
   exact At.tup az ((a2.mono cX).mono (aK fr _))
  have s4:=aK hl (HO.tup ys)
  have t4:=t2.d7 (o:=.tup ys) Wd
  generalize upd G2 l (.tup ys)=H4 at A1 s4 t4 ⊢
  refine⟨(by decide),fun p5 H5 f5 s5 e5=>?_⟩
  have n5:=t4.ne f5
  have z45:=s4.trans s5
  obtain⟨Wd,rfl⟩:∃Wd:Nat,la=(Wd:Int):=⟨la.toNat,by omega⟩
  refine q p5 ⟨1+y1,3+y2,lo,lo+1+y8,Wd,ev,ru,rd,dZ⟩ H5 ⟨⟨by show 1<=1+y1/\1+y1<=1000000000000000000; omega,by show 0<=3+y2/\3+y2<=1000000000000; omega,by show 0<=lo/\lo<=lo+1+y8; omega,by show lo+1+y8<=12; omega,by show Wd<=4; omega,acx,hq4,hq5,by show dZ.length<=3; omega,fun rs hrs=>(od rs hrs).1⟩,by show 1+y1<=1000000; omega,fun rs hrs=>(od rs hrs).2⟩ ?_ ((t4.same s5).mono (by omega)) (s3.trans (x32.trans (SX.of z45)))
  exact At.tup (by rw[bV n5]; exact e5) (ak.cons (At.int _) (ak.cons (At.int _) (ak.cons (At.tup (by rw[bV n9]; exact z45 _ _ z8') (bH [lo,lo+1+y8])) (ak.cons (At.int _) (ak.cons (At.int _) (ak.cons (At.tup (by rw[bV hq2]; exact z45 _ _ abD) (bH [ru,rd])) (ak.cons (A1.mono (SX.of s5)) ak.nil)))))))
structure StL (x:cJ):Prop where
 w:YW x.w
 r:0<=x.r
 c:x.cs.length=5
 cn:∀y∈x.cs,0<=y
 sm:x.r+x.cs.sum<=12
 s:0<=x.s/\x.s<=5
 t:0<=x.t/\x.t<=9
 u:x.us.length=3
 ul:∀y∈x.us,R4 y
theorem StL.is {x:cJ} (h:StL x):eV x:=⟨h.c,h.u,fun y hy=>by obtain⟨a,b,c,rfl,_⟩:=h.ul y hy; rfl⟩
def DG:Sp:=fun vs H Q _=>∃(a:Addr) (n:Nat) (v:V) (x:cO),vs=[.ref a,v]/\At H (gZ x) v/\Su x/\Tp H a n/\n<=100000000/\∀p y H',StL y->At (hid a H') (lC y) (.ref p)->Tp H' a (n+60)->SX a H H'->Q (.ref p) H'
theorem kh:aV ["_law_tape_here","_law_post","_law_called","_law_seen","_law_wait"] ["_law_tape_here","_law_post"] (aH iI):=(by walk_at "c")
theorem su (F:iW K "_law_small_stand" "_law_small_stand" iI f fd) (B:Bi mg) (bA:Ct P w K mg base k "_law_draw" ["_law_tape_here","_law_many"] oY):bQ P w K mg base iH (k+1) f fd ["_law_tape_here","_law_post"] DG:=by
 refine F.ok kh (by rintro vs H Q E ⟨a,n,v,x,rfl,_⟩; rfl) (fun cdv A outer s H vs Q E hr h=>?_)
 obtain⟨a,n,pA,x,rfl,aA,hx,tp,hn,q⟩:=h
 have ND:=kh.nd
 refine⟨_,(aq (dJ (a_ iV (pf bA hr (aa (pv 0) (aa ao aj))) ao (aR _)) (aG (aX (bj (aa ao (aa (aZ aO (aZ aO (pv 1) ao (fun _ _=>rfl)) ao (fun _ _=>rfl)) (aa (bj (aa ao (aa ao (aa ao (aa ao (aa ao aj)))))) (aa ao (aa ao (aa (bj (aa (bj (aa ao (aa ao (aa ao aj)))) (aa (bj (aa ao (aa ao (aa ao aj)))) (aa (bj (aa ao (aa ao (aa ao aj)))) aj)))) aj))))))))) bT) (aq (aW (i:=2) ND rfl (by walk_at "o") (pt (cM) B.tuple cH (aa (iw (N':=["_law_k","_law_tape_here"]) (js:=[0]) rfl (cY (by rfl) B.range (aa ao aj)) uO.mk1 rfl (by decide) rfl (fun fp s' H'=>(aZ aO (b8 (aa ao (aa ao (aa ao (aa ao (aa ao aj)))))) (pf bA hr (aa (pv 1) (aa ao aj))) (fun _ _=>rfl)))) aj))) (aq (aW (i:=3) ND rfl (by walk_at "o") (pt (cM) B.tuple cH (aa (iw (N':=["_law_j","_law_tape_here"]) (js:=[0]) rfl (cY (by rfl) B.range (aa ao aj)) uO.mk1 rfl (by decide) rfl (fun fp s' H'=>(pt (cM) B.tuple cH (aa (iw (N':=["_law_k","_law_tape_here"]) (js:=[1]) rfl (cY (by rfl) B.range (aa ao aj)) uO.mk1 rfl (by decide) rfl (fun fp s' H'=>(pf bA hr (aa (pv 1) (aa ao aj))))) aj)))) aj))) (aq (aW (i:=4) ND rfl (by walk_at "o") (pf bA hr (aa (pv 0) (aa (aZ aO (b8 (aa ao (aa ao (aa ao aj)))) (pf bA hr (aa (pv 0) (aa ao aj))) (fun _ _=>rfl)) aj)))) (aG (aX (bj (aa (pv 4) (aa (pf bA hr (aa (pv 0) (aa ao aj))) (aa (pv 2) (aa (pf bA hr (aa (pv 0) (aa ao aj))) (aa (pf bA hr (aa (pv 0) (aa ao aj))) (aa (pv 3) aj))))))))))))),?_⟩
 walk_at "rd"
 refine gw.of tp (by omega) (by decide) (by decide) fun y1 H1 l1 u1 t1 s1=>?_
 walk_at "rd"
 refine fW (fun c1=>?_) (fun c1=>?_)
 ·obtain⟨pa,pb,pc,pd,rfl,p1,p2,_,_⟩:=lJ aA
  have na:=tp.neT p1
  have nb:=tp.neT p2
  refine Ix.tup (s1.get na p1) (v:=.ref pb) rfl (Ix.tup (s1.get nb p2) (v:=.int x.lo) rfl ⟨(by decide),fun q1 G1 g1 r1 d1=>⟨(by decide),fun q2 G2 g2 r2 d2=>⟨(by decide),fun q3 G3 g3 r3 d3=>⟨(by decide),fun q4 G4 g4 r4 d4=>⟨(by decide),fun q5 G5 g5 r5 d5=>⟨(by decide),fun q6 G6 g6 r6 d6=>?_⟩⟩⟩⟩⟩⟩)
  have m1:=t1.ne g1
  have m2:=(t1.same r1).ne g2
  have m3:=((t1.same r1).same r2).ne g3
  have m4:=(((t1.same r1).same r2).same r3).ne g4
  have m5:=((((t1.same r1).same r2).same r3).same r4).ne g5
  have m6:=(((((t1.same r1).same r2).same r3).same r4).same r5).ne g6
  have r16:=r1.trans (r2.trans (r3.trans (r4.trans (r5.trans r6))))
  have T0:∀qq:Addr,qq≠a->G6 qq=some (.tup [.int 0,.int 0,.int 0])->At (hid a G6) (jg [0,0,0]) (.ref qq):=fun qq mq dq=>At.tup (by rw[bV mq]; exact dq) (bH [0,0,0])
  have hlo:=hx.lo
  have hhi:=hx.hi
  refine q q6 ⟨0,x.lo,[0,0,0,0,0],0,0,[[0,0,0],[0,0,0],[0,0,0]]⟩ G6 ⟨by show YW 0; exact⟨by decide,by decide⟩,hlo.1,rfl,fun y hy=>?_,by show x.lo+0<=12; omega,by show(0:Int)<=0/\(0:Int)<=5; decide,by show(0:Int)<=0/\(0:Int)<=9; decide,rfl,fun y hy=>?_⟩ ?_ ((t1.same r16).mono (by omega)) (s1.trans (SX.of r16))
  ·simp only[b7,jQ,or_false,or_self] at hy
   rw[hy]; decide
  ·simp only[b7,jQ,or_false,or_self] at hy
   rw[hy]; exact⟨0,0,0,rfl,⟨by decide,by decide⟩,⟨by decide,by decide⟩,⟨by decide,by decide⟩⟩
  ·exact At.tup (by rw[bV m6]; exact d6) (ak.cons (At.int _) (ak.cons (At.int _) (ak.cons (At.tup (by rw[bV m1]; exact r6 _ _ (r5 _ _ (r4 _ _ (r3 _ _ (r2 _ _ d1))))) (bH [0,0,0,0,0])) (ak.cons (At.int _) (ak.cons (At.int _) (ak.cons (At.tup (by rw[bV m5]; exact r6 _ _ d5) (ak.cons (T0 q2 m2 (r6 _ _ (r5 _ _ (r4 _ _ (r3 _ _ d2))))) (ak.cons (T0 q3 m3 (r6 _ _ (r5 _ _ (r4 _ _ d3)))) (ak.cons (T0 q4 m4 (r6 _ _ (r5 _ _ d4))) ak.nil)))) ak.nil))))))
 ·rw[j8]
  walk_at "rd"
  refine CK.of (n:=5) rfl (by decide) fun Ja Kq=>?_
  have ca2:Ja≠a:=t1.ne Kq
  refine⟨fun i zs H'=>∃cs:List Int,zs=cs.map V.int/\cs.length=i/\(∀c∈cs,0<=c/\c<=2)/\H' Ja=some (.lst zs)/\Tp H' a (n+1+i)/\SX a H1 H',⟨[],rfl,rfl,fun c h=>by simp at h,az,t1.d7 ca2,(SX.refl a H1).d7 Kq ca2⟩,?_,?_⟩
  ·rintro i zs H4 hi ⟨cs,rfl,lc,hc,c4,t4,s4⟩
   show Tf _ _ _ [some _,some (.ref a)] H4 _
   walk_at "rd"
   refine⟨(by decide),fun p5 H5 f5 r5 e5=>gw.of (t4.same r5) (by omega) (by decide) (by decide) fun y6 H6 l6 u6 t6 s6=>?_⟩
   have n5:=t4.ne f5
   obtain⟨v,hv,ev⟩:=jf (ts:=[0,0,0,1,2]) l6 u6
   have hv':0<=v/\v<=2:=by
    simp only[b7,jQ,or_false] at hv
    rcases hv with rfl | rfl | rfl | rfl | rfl <;> decide
   refine Ix.lst (s6.get n5 e5) ev ⟨s6.get ca2 (r5 _ _ c4),by rw[bR]; exact bw (by omega),cs++[v],by rw[jC]; rfl,by rw[fP,lc]; rfl,fun c hc'=>?_,az,(t6.d7 ca2).mono (by omega),(s4.trans ((SX.of r5).trans s6)).d7 Kq ca2⟩
   rcases oH.mp hc' with z | z
   ·exact hc c z
   ·rw[fU.mp z]; exact hv'
  ·rintro zs H4 ⟨cs,rfl,lc,hc,c4,t4,s4⟩
   refine⟨Ja,_,rfl,c4,fun YJ hl2=>?_⟩
   have la2:YJ≠a:=t4.ne hl2
   have A2:At (hid a (upd H4 YJ (.tup (cs.map V.int)))) (.tuple (cs.map .int)) (.ref YJ):=by
    rw[dH la2]
    exact At.tup az (bH cs)
   have t5:Tp (upd H4 YJ (.tup (cs.map V.int))) a (n+6):=t4.d7 la2
   have x5:SX a H1 (upd H4 YJ (.tup (cs.map V.int))):=s4.trans (SX.of (aK hl2 _))
   generalize upd H4 YJ (.tup (cs.map V.int))=H5 at *
   show gK _ _ _ _ _ _
   rw[j8]
   walk_at "rd"
   refine CK.of (n:=3) rfl (by decide) fun acc hacc=>?_
   have ca:acc≠a:=t5.ne hacc
   refine⟨fun i ys H'=>∃us:List (List Int),us.length=i/\(∀u∈us,R4 u)/\ak (hid acc (hid a H')) (us.map jg) ys/\ys.length=i/\H' acc=some (.lst ys)/\Tp H' a (n+6+3*i)/\SX a H5 H',⟨[],rfl,fun u h=>by simp at h,ak.nil,rfl,az,t5.d7 ca,(SX.refl a H5).d7 hacc ca⟩,?_,?_⟩
   ·rintro i ys H2 hi ⟨us,l2,u2,a2,y2,c2,t2,s2⟩
    show WY _ _ [some _,some (.ref a)] H2 _
    walk_at "rd"
    rw[j8]
    walk_at "rd"
    refine CK.of (n:=3) rfl (by decide) fun Vq FZ=>?_
    have ca3:Vq≠a:=t2.ne FZ
    have c23:acc≠Vq:=fun z=>by rw[<- z,c2] at FZ; cases FZ
    refine⟨fun j zs H'=>∃es:List Int,zs=es.map V.int/\es.length=j/\(∀c∈es,0<=c/\c<7)/\H' Vq=some (.lst zs)/\Tp H' a (n+6+3*i+j)/\SX a H2 H',⟨[],rfl,rfl,fun c h=>by simp at h,az,t2.d7 ca3,(SX.refl a H2).d7 FZ ca3⟩,?_,?_⟩
    ·rintro j zs H6 hj ⟨es,rfl,le,he,c6,t6,s6⟩
     show pW _ _ _ _ [some _,some (.ref a)] H6 _
     walk_at "rd"
     refine gw.of t6 (by omega) (by decide) (by decide) fun v H7 l7 u7 t7 s7=>⟨s7.get ca3 c6,by rw[bR]; exact bw (by omega),es++[v],by rw[jC]; rfl,by rw[fP,le]; rfl,fun c hc'=>?_,az,(t7.d7 ca3).mono (by omega),(s6.trans s7).d7 FZ ca3⟩
     rcases oH.mp hc' with z | z
     ·exact he c z
     ·rw[fU.mp z]; exact⟨l7,u7⟩
    ·rintro zs H6 ⟨es,rfl,le,he,c6,t6,s6⟩
     refine⟨Vq,_,rfl,c6,fun t ht=>?_⟩
     have ta:t≠a:=t6.ne ht
     have c26:=s6.get ca c2
     have tc:t≠acc:=fun z=>by subst z; rw[ht] at c26; cases c26
     have Tq:=aK ht (HO.tup (es.map V.int))
     have e7:upd H6 t (.tup (es.map V.int)) t=some (.tup (es.map V.int)):=az
     generalize upd H6 t (.tup (es.map V.int))=H7 at Tq e7 ⊢
     have s27:=s6.trans (SX.of (a:=a) Tq)
     have tri:R4 es:=by
      obtain⟨v1,v2,v3,rfl⟩:=M7 le
      have h1:=he v1 (by simp)
      have h2:=he v2 (by simp)
      have h3:=he v3 (by simp)
      exact⟨v1,v2,v3,rfl,⟨h1.1,by omega⟩,⟨h2.1,by omega⟩,⟨h3.1,by omega⟩⟩
     refine⟨Tq _ _ c26,bw (by omega),us++[es],by rw[fP,l2]; rfl,fun u hu=>?_,?_,by rw[fP,y2]; rfl,az,?_,?_⟩
     ·rcases oH.mp hu with z | z
      ·exact u2 u z
      ·rw[fU.mp z]; exact tri
     ·rw[dH ca,gF,jC]
      refine ak.append (a2.mono (aF.hid s27)) (ak.cons (At.tup (by rw[bV tc,bV ta]; exact e7) (bH es)) ak.nil)
     ·exact((t6.same Tq).d7 ca).mono (by omega)
     ·exact(s2.trans s27).d7 hacc ca
   ·rintro ys H2 ⟨us,l2,u2,a2,y2,c2,t2,s2⟩
    refine⟨acc,ys,rfl,c2,fun l hl=>?_⟩
    have la:l≠a:=t2.ne hl
    have A1:At (hid a (upd H2 l (.tup ys))) (.tuple (us.map jg)) (.ref l):=by
     rw[dH la]
     have fr:hid a H2 l=none:=by rw[bV la]; exact hl
     exact At.tup az ((a2.mono cX).mono (aK fr _))
    have t3:Tp (upd H2 l (.tup ys)) a (n+6+9):=t2.d7 la
    have x3:SX a H5 (upd H2 l (.tup ys)):=s2.trans (SX.of (aK hl _))
    generalize upd H2 l (.tup ys)=H3 at *
    try walk_at "rd"
    refine⟨(by decide),fun p5 G5 f5 r5 e5=>gw.of (t3.same r5) (by omega) (by decide) (by decide) fun y6 G6 l6 u6 t6 s6=>?_⟩
    have n5:=t3.ne f5
    obtain⟨mm,hmm,emm⟩:=jf (ts:=[3,9,15]) l6 u6
    have acw:3<=mm/\mm<=15:=by
     simp only[b7,jQ,or_false] at hmm
     rcases hmm with rfl | rfl | rfl <;> decide
    refine Ix.lst (s6.get n5 e5) emm ?_
    refine gw.of t6 (by omega) (by omega) (by omega) fun v6 H6 l6' u6' t6' s6'=>?_
    refine gw.of t6' (by omega) (by decide) (by decide) fun v7 H7 l7 u7 t7 s7=>?_
    refine gw.of t7 (by omega) (by decide) (by decide) fun v8 H8 l8 u8 t8 s8=>?_
    refine gw.of t8 (by omega) (by decide) (by decide) fun v9 H9 l9 u9 t9 s9=>⟨(by decide),fun z ux hz lB e10=>?_⟩
    have za:z≠a:=t9.ne hz
    have x10:SX a H3 ux:=(SX.of r5).trans (s6.trans (s6'.trans (s7.trans (s8.trans (s9.trans (SX.of lB))))))
    have hsum:cs.sum<=10:=by
     obtain⟨e0,e1,e2,e3,e4,rfl⟩:=Q8 lc
     have h0:=hc e0 (by simp)
     have h1:=hc e1 (by simp)
     have h2:=hc e2 (by simp)
     have h3:=hc e3 (by simp)
     have h4:=hc e4 (by simp)
     simp only[Er,List.sum_nil]
     omega
    refine q z ⟨v6,v7,cs,v8,v9,us⟩ ux ⟨by show 0<=v6/\v6<=1000000000000; omega,l7,lc,fun y hy=>(hc y hy).1,by show v7+cs.sum<=12; omega,⟨l8,by show v8<=5; omega⟩,⟨l9,by show v9<=9; omega⟩,l2,u2⟩ ?_ ((t9.same lB).mono (by omega)) (s1.trans (x5.trans (x3.trans x10)))
    exact At.tup (by rw[bV za]; exact e10) (ak.cons (At.int _) (ak.cons (At.int _) (ak.cons ((A2.mono x3).mono x10) (ak.cons (At.int _) (ak.cons (At.int _) (ak.cons (A1.mono x10) ak.nil))))))
def Jq:Sp:=fun vs H Q _=>∃(a:Addr) (n:Nat),vs=[.ref a]/\Tp H a n/\n<=100000000/\∀p c H',yL c->(∀q∈c,q.1<=4/\q.2<=3)->At (hid a H') (CP c) (.ref p)->Tp H' a (n+20)->SX a H H'->Q (.ref p) H'
theorem vd:aV ["_law_tape_here","_law_many"] ["_law_tape_here"] (aH rM):=(by walk_at "c")
theorem HQ (F:iW K "_law_curve" "_law_curve" rM f fd) (B:Bi mg) (bA:Ct P w K mg base k "_law_draw" ["_law_tape_here","_law_many"] oY):bQ P w K mg base iH (k+1) f fd ["_law_tape_here"] Jq:=by
 refine F.ok vd (by rintro vs H Q E ⟨a,n,rfl,_⟩; rfl) (fun cdv A outer s H vs Q E hr h=>?_)
 obtain⟨a,n,rfl,tp,hn,q⟩:=h
 have ND:=vd.nd
 refine⟨_,(aq (aW (i:=1) ND rfl (by walk_at "o") (aZ aO (b8 (aa ao (aa ao (aa ao (aa (aM bD ao (pf bA hr (aa (pv 0) (aa ao aj)))) aj))))) (pf bA hr (aa (pv 0) (aa ao aj))) (fun _ _=>rfl))) (aG (aX (pt (cM) B.tuple cH (aa (iw (N':=["_law_k","_law_tape_here"]) (js:=[0]) rfl (cY (by rfl) B.range (aa (pv 1) aj)) uO.mk1 rfl (by decide) rfl (fun fp s' H'=>(bj (aa (pf bA hr (aa (pv 1) (aa ao aj))) (aa (pf bA hr (aa (pv 1) (aa ao aj))) aj))))) aj))))),?_⟩
 walk_at "rd"
 refine gw.of tp (by omega) (by decide) (by decide) fun y1 H1 l1 u1 t1 s1=>⟨_,_,rfl,rfl,(by decide),fun p2 H2 f2 r2 e2=>gw.of (t1.same r2) (by omega) (by decide) (by decide) fun y3 H3 l3 u3 t3 s3=>?_⟩
 have n2:=t1.ne f2
 obtain⟨mm,hmm,emm⟩:=jf (ts:=[1,1,1,2+y1]) l3 u3
 have acw:1<=mm/\mm<=3:=by
  simp only[b7,jQ,or_false] at hmm
  rcases hmm with rfl | rfl | rfl | rfl <;> omega
 refine Ix.lst (s3.get n2 e2) emm ?_
 have x3:SX a H H3:=s1.trans ((SX.of r2).trans s3)
 rw[j8]
 walk_at "rd"
 refine CK.of (n:=mm.toNat) (by omega) (by omega) fun acc hacc=>?_
 have ca:acc≠a:=t3.ne hacc
 refine⟨fun i ys H'=>∃c:Cv,c.length=i/\(∀q∈c,(0<=q.1/\q.1<=4)/\0<=q.2/\q.2<=3)/\ak (hid acc (hid a H')) (c.map Z8) ys/\ys.length=i/\H' acc=some (.lst ys)/\Tp H' a (n+2+2*i)/\SX a H3 H',⟨[],rfl,fun u h=>by simp at h,ak.nil,rfl,az,t3.d7 ca,(SX.refl a H3).d7 hacc ca⟩,?_,?_⟩
 ·rintro i ys H4 hi ⟨c,lc,hc,a4,y4,c4,t4,s4⟩
  show O8 _ [some _,some (.ref a)] H4 _
  walk_at "rd"
  refine gw.of t4 (by omega) (by decide) (by decide) fun v1 H5 l5 u5 t5 s5=>gw.of t5 (by omega) (by decide) (by decide) fun v2 H6 l6 u6 t6 s6=>⟨(by decide),fun t H7 ht s7 e7=>?_⟩
  have V0:=s5.trans s6
  have s47:=V0.trans (SX.of s7)
  have ta:t≠a:=t6.ne ht
  have c6:=V0.get ca c4
  have tc:t≠acc:=fun z=>by subst z; rw[ht] at c6; cases c6
  refine⟨s7 _ _ c6,bw (by omega),c++[(v1,v2)],by rw[fP,lc]; rfl,fun u hu=>?_,?_,by rw[fP,y4]; rfl,az,?_,?_⟩
  ·rcases oH.mp hu with z | z
   ·exact hc u z
   ·rw[fU.mp z]; exact⟨⟨l5,by show v1<=4; omega⟩,l6,by show v2<=3; omega⟩
  ·rw[dH ca,gF,jC]
   refine ak.append (a4.mono (aF.hid s47)) (ak.cons (At.tup (by rw[bV tc,bV ta]; exact e7) (bH [v1,v2])) ak.nil)
  ·exact((t6.same s7).d7 ca).mono (by omega)
  ·exact(s4.trans s47).d7 hacc ca
 ·rintro ys H4 ⟨c,lc,hc,a4,y4,c4,t4,s4⟩
  refine⟨acc,ys,rfl,c4,fun l hl=>?_⟩
  have la:l≠a:=t4.ne hl
  have A1:At (hid a (upd H4 l (.tup ys))) (CP c) (.ref l):=by
   rw[dH la]
   have fr:hid a H4 l=none:=by rw[bV la]; exact hl
   exact At.tup az ((a4.mono cX).mono (aK fr _))
  exact q l c _ ⟨fun z=>by rw[z] at lc; simp at lc; omega,by omega,fun q hq=>⟨(hc q hq).1.1,(hc q hq).2.1⟩⟩ (fun q hq=>⟨(hc q hq).1.2,(hc q hq).2.2⟩) A1 ((t4.d7 la).mono (by omega)) (x3.trans (s4.trans (SX.of (aK hl _))))
theorem Qo.of {K:PySem.W.Frag} {H:Hp} {l:Addr} {xs:List V} {lo hi:Option Int} {Q:VK} (hl:H l=some (.lst xs)) (q:∀p H',H p=none->aF H H'->H' p=some (.lst (mj xs lo hi))->Q (.ref p) H'):Qo K (.ref l) lo hi H Q:=
 ⟨l,xs,rfl,dX.of hl,fun p fp=>q p _ fp (aK fp _) az⟩
theorem n_ (is:List Int):PyData.hasDict (.list (is.map .int))=false/\PyData.canLay0 (.list (is.map .int))=true/\PyData.depth (.list (is.map .int))<=60:=by
 obtain⟨d1,d2,d3⟩:=z_ is
 exact⟨by simpa[PyData.hasDict] using d1,by simpa[PyData.canLay0] using d2,by show PyData.depthAll _+1<=60; rw[d3]; decide⟩
theorem Nq (ns:List Int) (h:ns.length<=63):mj (ns.map V.int) (some 2) (some 63)=(ns.drop 2).map V.int:=by
 have e:mj (ns.map V.int) (some ((2:Nat):Int)) (some ((63:Nat):Int))=(ns.drop 2).map V.int:=by
  unfold mj
  rw[HT.nO,HT.nO,bR,List.map_drop]
  by_cases q:2<=ns.length
  ·rw[zH q,Jz h,LR (by rw[vJ,bR]; omega)]
  ·rw[Jz (by omega),JL (by rw[bR]; omega),JL (by rw[bR]; omega),List.take_nil]
 exact e
theorem qY {ls:List Int} {i:Nat} {j:Int} (e:j=(i:Int)) (h:i<ls.length):Dq (ls.map V.int) j=some (.int (ls.getD i 0)):=by
 rw[e]
 exact bx (by rw[gM,fJ,fM h]; rfl)
def PQ (K:PySem.W.Frag):Sp:=fun vs H Q _=>∃(p:Addr) (ns:List Int),vs=[.ref p,(.int 2)]/\Ss K H p (ns.map V.int)/\ns.length<=63/\∀(r:Addr) (cs:List Int) H',aF H H'->H' r=some (.lst (cs.map V.int))->1<=cs.length->cs.length<=2->Q (.ref r) H'
theorem tH:aV ["_law_script","_law_many","_law_cells","_law_k","_law_cell"] ["_law_script","_law_many"] (aH o_):=(by walk_at "c")
theorem Fl (F:iW K "_law_folded" "_law_folded" o_ f fd) (B:Bi mg):bQ P w K mg base iH (k+1) f fd ["_law_script","_law_many"] (PQ K):=by
 refine F.ok tH (by rintro vs H Q E ⟨p,ns,rfl,_⟩; rfl) (fun cdv A outer s H vs Q E hr h=>?_)
 obtain⟨p,ns,rfl,hS,hn,q⟩:=h
 have ND:=tH.nd
 refine⟨_,(aq (aW (i:=2) ND rfl (by walk_at "o") (pt (Al) B.list jd (aa (dh pZ (pv 0) eY (cV (pv 1))) aj))) (aq (g8 PassesOwn.never rfl (JP (K:=K) rfl B.enumerate (aa (dh pZ (pv 0) (cV (pv 1)) (cV ao)) aj)) (bJ (K:=K) (n:=2) rfl rfl (aC (aD (i:=3) ND rfl (by walk_at "o")) (aC (aD (i:=4) ND rfl (by walk_at "o")) bI))) (aG (cU (aM bD (aZ aO (pv 2) (aM lK (pv 3) (pv 1)) (fun _ _=>rfl)) (aM fC (pv 4) (aM bD (pv 3) ao))) (vX (pv 2) (aM lK (pv 3) (pv 1)) set_list)))) (aG (aX (aM v_ (pv 2) (aM Xv (b8 (aa ao aj)) (pt (lq) B.int tE (aa (dC (HH hr.units) (pv 2) (b8 aj) (aR _)) aj)))))))),?_⟩
 walk_at "rd"
 refine⟨p,_,rfl,hS.sq,fun p1 f1=>?_⟩
 rw[nu (by decide),<- vO]
 have s1:=aK f1 (HO.lst ((ns.take (Int.toNat 2)).map V.int))
 have e1:upd H p1 (HO.lst ((ns.take (Int.toNat 2)).map V.int)) p1=some (.lst ((ns.take (Int.toNat 2)).map V.int)):=az
 generalize upd H p1 (HO.lst ((ns.take (Int.toNat 2)).map V.int))=H1 at s1 e1 ⊢
 refine⟨p1,_,rfl,e1,fun pc fc=>?_⟩
 have s2:=aK fc (HO.lst ((ns.take (Int.toNat 2)).map V.int))
 have e2:upd H1 pc (HO.lst ((ns.take (Int.toNat 2)).map V.int)) pc=some (.lst ((ns.take (Int.toNat 2)).map V.int)):=az
 generalize upd H1 pc (HO.lst ((ns.take (Int.toNat 2)).map V.int))=H2 at s2 e2 ⊢
 have s02:=s1.trans s2
 have hS2:=hS.same s02
 have zc:H pc=none:=by
  cases e:H pc with
  | none=>rfl
  | some o=>rw[s1 _ _ e] at fc; cases fc
 rw[yP]
 walk_at "rd"
 refine⟨p,_,rfl,hS2.sq,fun p3 f3=>?_⟩
 rw[Nq ns hn]
 have s3:=aK f3 (HO.lst ((ns.drop 2).map V.int))
 have e3:upd H2 p3 (HO.lst ((ns.drop 2).map V.int)) p3=some (.lst ((ns.drop 2).map V.int)):=az
 generalize upd H2 p3 (HO.lst ((ns.drop 2).map V.int))=H3 at s3 e3 ⊢
 have n3:p3≠pc:=fun z=>by rw[z,e2] at f3; cases f3
 refine EK.of e3 (fun i σ H'=>∃(cs:List Int) (o3 o4:Option V),σ=[some (.ref p),some (.int 2),some (.ref pc),o3,o4]/\H' pc=some (.lst (cs.map V.int))/\cs.length=(ns.take (Int.toNat 2)).length/\H' p3=some (.lst ((ns.drop 2).map V.int))/\aF H H') ⟨_,_,_,rfl,s3 _ _ e2,rfl,e3,s02.trans s3⟩ (fun i σ H' _ ⟨_,_,_,_,_,_,z,_⟩=>z) ?_ ?_
 ·rintro i x σ H4 p4 hx ⟨cs,o3,o4,rfl,e4,l4,g4,s4⟩ f4
  obtain⟨hi,rfl⟩:=ints_get hx
  have hl8:cs.length=2:=by
   rw[l4,jj]
   rw[vJ] at hi
   exact zH (by show 2<=ns.length; omega)
  have af0:i<63:=by rw[vJ] at hi; omega
  refine⟨p4,_,rfl,cG.of az,rfl,?_⟩
  have s5:=aK f4 (HO.tup [V.int (i:Nat),V.int ((ns.drop 2).getD i 0)])
  generalize upd H4 p4 (HO.tup [V.int (i:Nat),V.int ((ns.drop 2).getD i 0)])=H5 at s5 ⊢
  walk_at "rd"
  refine⟨by decide,?_⟩
  have em:((i:Nat):Int) % 2=((i % 2:Nat):Int):=by omega
  have lt:i % 2<cs.length:=by rw[hl8]; exact Nat.mod_lt _ (by decide)
  refine Ix.lst (s5 _ _ e4) (qY em lt) ?_
  walk_at "rd"
  refine⟨.inr ⟨by omega,by omega⟩,by decide,?_⟩
  refine⟨pc,_,_,i % 2,rfl,rfl,s5 _ _ e4,by rw[em,bR]; exact uL lt,?_⟩
  rw[<- List.map_set]
  exact⟨_,_,_,rfl,az,by rw[List.length_set]; exact l4,by rw[aP n3]; exact s5 _ _ g4,aF.d7 (s4.trans s5) zc⟩
 ·rintro σ H4 ⟨cs,o3,o4,rfl,e4,l4,g4,s4⟩
  walk_at "rd"
  have lc:cs.length<=2:=by rw[l4,jj]; exact Nat.min_le_left _ _
  refine⟨(by decide),fun p5 H5 f5 s5 e5=>⟨fQ _,fun p6 H6 f6 s6 e6=>?_⟩⟩
  have z:=n_ cs
  have V0:=s5.trans s6
  refine⟨.list (cs.map .int),.list [],At.lst (V0 _ _ e4) (bH _),At.lst e6 ak.nil,z.1,rfl,z.2.1,rfl,z.2.2,?_⟩
  cases cs with
  | nil=>
   have eq:PyData.eqv (.list (([]:List Int).map .int)) (.list [])=true:=rfl
   rw[eq,aL rfl]
   refine⟨p5,1,_,rfl,rfl,s6 _ _ e5,by decide,by decide,(by show 1*1<=sizeLine; decide),fun p7 f7=>?_⟩
   have s7:=aK f7 (HO.lst [V.int 0])
   refine Ed.of (s7 _ _ (V0 _ _ e4)) az (UT (by show 0+1<=1000; decide)) fun p8 H8 f8 s8 e8=>q p8 [0] H8 (s4.trans (V0.trans (s7.trans s8))) e8 (by decide) (by decide)
  | cons c0 cs=>
   have eq:PyData.eqv (.list ((c0::cs).map .int)) (.list [])=false:=rfl
   rw[eq,bB (by decide)]
   refine⟨p5,0,_,rfl,rfl,s6 _ _ e5,by decide,by decide,(by show 1*0<=sizeLine; decide),fun p7 f7=>?_⟩
   have s7:=aK f7 (HO.lst [])
   refine Ed.of (s7 _ _ (V0 _ _ e4)) az (UT (by rw[bR]; show(c0::cs).length+0<=1000; omega)) fun p8 H8 f8 s8 e8=>?_
   have e8:H8 p8=some (.lst ((c0::cs).map V.int++[])):=e8
   rw[lZ] at e8
   exact q p8 (c0::cs) H8 (s4.trans (V0.trans (s7.trans s8))) e8 (by simp) lc
theorem pI {ws:List Int} {i:Nat} {u v:List Int} (h:∀j,j<3->ws.getD j 0>(i:Int)->u.getD j 0=v.getD j 0):cu ws i u=cu ws i v:=by
 unfold cu
 refine List.map_congr_left fun j hj=>?_
 have hj:=rR.mp hj
 by_cases c:ws.getD j 0>(i:Int)
 ·rw[aL c,aL c,h j hj c]
 ·rw[bB c,bB c]
theorem lL (ws:List Int) (i:Nat) (u:List Int):cu ws i (cu ws i u)=cu ws i u:=by
 refine pI fun j hj hg=>?_
 match j,hj,hg with
 | 0,_,hg=>show(if ws.getD 0 0>(i:Int) then u.getD 0 0 else 0)=_; rw[aL hg]
 | 1,_,hg=>show(if ws.getD 1 0>(i:Int) then u.getD 1 0 else 0)=_; rw[aL hg]
 | 2,_,hg=>show(if ws.getD 2 0>(i:Int) then u.getD 2 0 else 0)=_; rw[aL hg]
theorem FJ (ws:List Int) (us:List (List Int)):dB ws (dB ws us)=dB ws us:=by
 show[cu ws 0 (cu ws 0 _),cu ws 1 (cu ws 1 _),cu ws 2 (cu ws 2 _)]=[cu ws 0 _,cu ws 1 _,cu ws 2 _]
 rw[lL,lL,lL]
theorem zX (x:cO) (st:cJ):fj x (fj x st)=fj x st:=by
 show cJ.mk st.w st.r st.cs (if x.e-1<(if x.e-1<st.s then x.e-1 else st.s) then x.e-1 else(if x.e-1<st.s then x.e-1 else st.s)) st.t (dB (fY x) (dB (fY x) st.us))=_
 rw[FJ]
 have:(if x.e-1<(if x.e-1<st.s then x.e-1 else st.s) then x.e-1 else(if x.e-1<st.s then x.e-1 else st.s))=if x.e-1<st.s then x.e-1 else st.s:=by
  by_cases h:x.e-1<st.s
  ·rw[aL h,bB (by omega)]
  ·rw[bB h,bB h]
 rw[this]
 rfl
theorem Rb (x:cO) (c:Cv) (st st':cJ) (h:fj x st=fj x st'):∀p,aJ x c st p=aJ x c st' p
 | 0=>by show[_]=[_]; rw[h]
 | p+1=>by rw[eZ,eZ,Rb x c st st' h p]
theorem ju {x:cO} {c:Cv} {st:cJ} {n:Nat} (h:(aJ x c st n).length=n) (q:Nat):(aJ x c st q).length<=n:=by
 by_cases z:q<=n
 ·have:=wJ (x:=x) (cv:=c) (st:=st) z; omega
 ·have:=J9 h (q-n)
  rw[show n+(q-n)=q by omega] at this
  rw[this]; omega
theorem done_one {x:cO} {c:Cv} {st:cJ} {n n':Nat} (h:(aJ x c st n).length=n) (h':(aJ x c st n').length=n'):n=n':=by
 have h1:=ju h n'
 have h2:=ju h' n
 omega
theorem nZ {x:cO} {c:Cv} {st:cJ} (p i:Nat):∀d,∃r,cA x c st p (i+d)=cA x c st p i++r
 | 0=>⟨[],by simp⟩
 | d+1=>by
  obtain⟨r,hr⟩:=nZ (x:=x) (c:=c) (st:=st) p i d
  obtain⟨r',hr'⟩:=K5 (x:=x) (cv:=c) (e:=dY (aJ x c st p) p) (p:=p) (es:=cA x c st p (i+d)) (c:=i+d)
  refine⟨r++r',?_⟩
  show Dh x c (dY (aJ x c st p) p) p (cA x c st p (i+d)) (i+d)=_
  rw[hr',hr,vL]
theorem HD {x:cO} {c:Cv} {st:cJ} {p i:Nat} (hp:p<(aJ x c st p).length) (hi:i<=rB c (dY (aJ x c st p) p)):(cA x c st p i).length<=(aJ x c st (p+1)).length:=by
 obtain⟨r,hr⟩:=nZ (x:=x) (c:=c) (st:=st) p i (rB c (dY (aJ x c st p) p)-i)
 rw[show i+(rB c (dY (aJ x c st p) p)-i)=rB c (dY (aJ x c st p) p) by omega] at hr
 rw[qJ hp,hr,fP]; omega
theorem eU {x:cO} {c:Cv} {st:cJ} {bd bd':Option Int} {lim Cq:Int} {n p i:Nat} (D:fH x c st bd lim n) (M:nM x c st bd' Cq p i) (h:lim<=Cq\/n=1):False:=by
 have h1:(cA x c st p (i+1)).length=(cA x c st p i).length+1:=by rw[kW,bB M.hk,fP]; rfl
 have h2:=HD M.hp (show i+1<=_ from M.hc)
 have h3:=ju D.hn (p+1)
 have h4:=qC (x:=x) (cv:=c) (st:=st) (p:=p) (c:=i)
 have h5:=uJ (x:=x) (cv:=c) (st:=st) p
 have h6:=M.hl
 have h7:=D.hl
 omega
variable {bf bu:Addr}
variable {bf bu:Addr}
def DK (CM CW:Addr):Sp:=fun vs H Q E=>∃(v u cv:V) (x:cO) (st:cJ) (c:Cv) (bd lim:Int),vs=[v,u,cv,.int bd,.int lim]/\At H (gZ x) v/\At H (lC st) u/\At H (CP c) cv/\iU x/\Dr x/\eV st/\yL c/\0<=lim/\lim<=900 /\
 (23<cF c (c.map (·.1))->∀H',aF H H'->E (.ref CW) none H') /\
 (cF c (c.map (·.1))<=23->∀n,fH x c st (some bd) lim n->∀p l ys H',aF H H'->H l=none->H' p=some (.tup [.str "kept",.ref l])->H' l=some (.lst ys)->ak H' ((aJ x c st n).map gH) ys->Q (.ref p) H') /\
 (cF c (c.map (·.1))<=23->∀p cc,jz x c st (some bd) lim p cc->∀q r H',aF H H'->H r=none->H' q=some (.tup [.str "broken",.ref r])->H' r=some (.lst ((bz (cA x c st p cc) (cA x c st p cc).length p++[(cc:Int)]).map V.int))->Q (.ref q) H') /\
 (cF c (c.map (·.1))<=23->∀p cc,nM x c st (some bd) lim p cc->∀H',aF H H'->E (.ref CM) none H')
theorem yW:aV ["post","stand","curve","bound","limit","entries","load"] ["post","stand","curve","bound","limit"] (aH vh):=(by walk_at "c")
theorem Mr {T:Addr} {tk:Tok} (F:xR K "opened" "opened" vh f fd T 300 tk) (O:Co K mg) (lA:GK P w K mg base k "walked" ["post","stand","curve","bound","limit"] (uW bf bu)) :
  bQ P w K mg base (my P w) (k+1) f fd ["post","stand","curve","bound","limit"] (DK bf bu):=by
 refine F.YF yW (by rintro vs H Q E ⟨v,u,cv,x,st,c,bd,lim,rfl,_⟩; rfl) (fun cdv A outer s H vs Q E Nk hr h=>?_)
 obtain⟨v,u,cv,x,st,c,bd,lim,rfl,a1,a2,a3,hx,hn,hs,hv,hl1,hl2,qW,qD,qB,qM⟩:=h
 have ND:=yW.nd
 refine⟨_,(aq (cU (pfe lA hr (aa (pv 0) (aa (pv 1) (aa (pv 2) (aa (pv 3) (aa (pv 4) aj)))))) (bJ (K:=K) (n:=2) rfl rfl (aC (aD (i:=5) ND rfl (by walk_at "o")) (aC (aD (i:=6) ND rfl (by walk_at "o")) bI)))) (aG (aX (eQ (a_ QQ (pv 6) dR (aR _)) (bj (aa (vW O.KEPT) (aa (pv 5) aj))) (bj (aa (vW O.BROKEN) (aa (pv 6) aj))))))),?_⟩
 walk_at "rd"
 refine⟨v,u,cv,x,st,c,some bd,lim,rfl,a1,a2,a3,hx,hn,hs,hv,hl1,hl2,fun h H' s' H3 s3=>qW h H3 (s3 s'),fun h n D v' H' s' ⟨p,l,ys,e1,e2,e3,e4,e5⟩=>?_,fun h p cc Bk v' r H' s' f' e' ⟨p',l,ys,e1,e2,e3,e4,e5⟩=>?_,fun h p cc M H' s' H3 s3=>qM h p cc M H3 (s3 s')⟩
 ·subst e1
  refine⟨p,_,rfl,cG.of e2,rfl,?_⟩
  walk_at "rd"
  refine⟨trivial,?_⟩
  rw[aL (by simp)]
  refine⟨(by decide),fun p2 H2 f2 s2 e6=>?_⟩
  exact qD h n D p2 l ys H2 (s'.trans s2) e3 e6 (s2 _ _ e4) (e5.mono s2)
 ·subst e1
  refine⟨p',_,rfl,cG.of e2,rfl,?_⟩
  walk_at "rd"
  refine⟨trivial,?_⟩
  rw[bB (by simp)]
  refine⟨(by decide),fun p2 H2 f2 s2 e6=>?_⟩
  exact qB h p cc Bk p2 r H2 (s'.trans s2) f' e6 (s2 _ _ e')
def mz (es:List En):List Int:=es.map fun e=>e.st.w
def mW (es:List En):Int:=match mz es with
 | []=>0
 | b::r=>d9 b r
section
variable {x:cO} {c:Cv} {st st':cJ} {bd:Option Int} {lim:Int}
theorem kZ {n p cc:Nat} {Cq:Int} (D:fH x c st bd lim n) (Bk:jz x c st bd Cq p cc):False:=by
 have h1:=ju D.hn p
 have h2:=D.hb p cc (.inl (by have:=Bk.hp; omega)) Bk.hp Bk.hc
 rw[Bk.hk] at h2
 cases h2
theorem Dg {p cc p' Dp:Nat} {Cq:Int} (b1:jz x c st bd lim p cc) (b2:jz x c st bd Cq p' Dp):p=p'/\cc=Dp:=by
 by_cases h1:p<p'\/p=p'/\cc<Dp
 ·have:=b2.hb p cc h1 b1.hp b1.hc; rw[b1.hk] at this; cases this
 ·by_cases h2:p'<p\/p'=p/\Dp<cc
  ·have:=b1.hb p' Dp h2 b2.hp b2.hc; rw[b2.hk] at this; cases this
  ·omega
theorem QL {p i i':Nat} (h:i<=i'):(cA x c st p i).length<=(cA x c st p i').length:=by
 obtain⟨r,hr⟩:=nZ (x:=x) (c:=c) (st:=st) p i (i'-i)
 rw[show i+(i'-i)=i' by omega] at hr
 rw[hr,fP]; omega
theorem Gv {p cc p' Dp:Nat} {Cq:Int} (b1:jz x c st bd lim p cc) (M:nM x c st bd Cq p' Dp) (hl:lim<=Cq):False:=by
 by_cases h1:p<p'\/p=p'/\cc<Dp+1
 ·have:=M.hb p cc h1 b1.hp b1.hc; rw[b1.hk] at this; cases this
 ·have g1:(cA x c st p' (Dp+1)).length=(cA x c st p' Dp).length+1:=by rw[kW,bB M.hk,fP]; rfl
  have g2:=b1.hl
  have g3:=M.hl
  have g4:1<=(cA x c st p' Dp).length:=by have:=qC (x:=x) (cv:=c) (st:=st) (p:=p') (c:=Dp); have:=uJ (x:=x) (cv:=c) (st:=st) p'; omega
  have g5:(cA x c st p' (Dp+1)).length<=(cA x c st p cc).length:=by
   by_cases z:p'=p
   ·subst z; exact QL (by omega)
   ·have k1:=HD M.hp (show Dp+1<=_ from M.hc)
    have k2:=wJ (x:=x) (cv:=c) (st:=st) (show p'+1<=p by omega)
    have k3:=qC (x:=x) (cv:=c) (st:=st) (p:=p) (c:=cc)
    omega
  omega
end
def Gd (es:List En):PyData:=.list (es.map gH)
def wM (ns:List Int):PyData:=.list (ns.map .int)
noncomputable def jZ (x:cO) (c:Cv) (st:cJ) (p cc:Nat):List Int:=bz (cA x c st p cc) (cA x c st p cc).length p++[(cc:Int)]
inductive K_ (x:cO) (c:Cv) (st:cJ) (bd lim:Int):Nat->PyData->Prop
 | U3 (n:Nat):fH x c st none lim n->K_ x c st bd lim 0 (Gd (aJ x c st n))
 | U0 (p cc:Nat):nM x c st none lim p cc->K_ x c st bd lim 0 (.str "many")
 | Xw (n:Nat):fH x c st (some bd) lim n->K_ x c st bd lim 1 (.tuple [.str "kept",Gd (aJ x c st n)])
 | Xy (p cc:Nat):jz x c st (some bd) lim p cc->K_ x c st bd lim 1 (.tuple [.str "broken",wM (jZ x c st p cc)])
 | opM (p cc:Nat):nM x c st (some bd) lim p cc->K_ x c st bd lim 1 (.str "many")
 | lbD (n j:Nat):fH x c st none lim n->fH x c st (some (mW (aJ x c st n))) lim n->Ih (mz (aJ x c st n)) (mW (aJ x c st n)) j->K_ x c st bd lim 2 (.tuple [.int (mW (aJ x c st n)),wM (bz (aJ x c st n) (aJ x c st n).length j)])
 | lbB (n p cc:Nat):fH x c st none lim n->jz x c st (some (mW (aJ x c st n))) lim p cc->K_ x c st bd lim 2 (.tuple [.none,wM (jZ x c st p cc)])
 | lbM (p cc:Nat):nM x c st none lim p cc->K_ x c st bd lim 2 (.str "many")
theorem Np {ns:List Int} {i:Int} {j j':Nat} (h:Ih ns i j) (h':Ih ns i j'):j=j':=by
 by_cases a:j<j'
 ·exact absurd h.1 (h'.2 j a)
 ·by_cases b:j'<j
  ·exact absurd h'.1 (h.2 j' b)
  ·omega
theorem K_.one {x:cO} {c:Cv} {st:cJ} {bd lim:Int} {w:Nat} {d d':PyData} (h:K_ x c st bd lim w d) (h':K_ x c st bd lim w d'):d=d':=by
 have r:=uc lim
 cases h with
 | U3 n D=>
  cases h' with
  | U3 n' D'=>rw[done_one D.hn D'.hn]
  | U0 p cc M=>exact absurd (eU D M (.inl r)) id
 | U0 p cc M=>
  cases h' with
  | U3 n' D'=>exact absurd (eU D' M (.inl r)) id
  | U0 p cc M=>rfl
 | Xw n D=>
  cases h' with
  | Xw n' D'=>rw[done_one D.hn D'.hn]
  | Xy p cc Bk=>exact absurd (kZ D Bk) id
  | opM p cc M=>exact absurd (eU D M (.inl r)) id
 | Xy p cc Bk=>
  cases h' with
  | Xw n' D'=>exact absurd (kZ D' Bk) id
  | Xy p' Dp Wy=>obtain⟨rfl,rfl⟩:=Dg Bk Wy; rfl
  | opM p' Dp M=>exact absurd (Gv Bk M r) id
 | opM p cc M=>
  cases h' with
  | Xw n' D'=>exact absurd (eU D' M (.inl r)) id
  | Xy p' Dp Wy=>exact absurd (Gv Wy M r) id
  | opM p' Dp M=>rfl
 | lbD n j D D2 hj=>
  cases h' with
  | lbD n' j' D' D2' hj'=>
   cases done_one D.hn D'.hn
   cases Np hj hj'
   rfl
  | lbB n' p cc D' Bk=>cases done_one D.hn D'.hn; exact absurd (kZ D2 Bk) id
  | lbM p cc M=>exact absurd (eU D M (.inl r)) id
 | lbB n p cc D Bk=>
  cases h' with
  | lbD n' j' D' D2' hj'=>cases done_one D.hn D'.hn; exact absurd (kZ D2' Bk) id
  | lbB n' p cc D' Wy=>
   cases done_one D.hn D'.hn
   obtain⟨rfl,rfl⟩:=Dg Bk Wy; rfl
  | lbM p cc M=>exact absurd (eU D M (.inl r)) id
 | lbM p cc M=>
  cases h' with
  | lbD n' j' D' D2' hj'=>exact absurd (eU D' M (.inl r)) id
  | lbB n' p cc D' Wy=>exact absurd (eU D' M (.inl r)) id
  | lbM p cc M=>rfl
theorem SD.Wf {n:Nat} {ns:List Int} (h:ns.length<=1000):SD (n+2) (wM ns):=SD.lst (by rw[bR]; exact h) fun e he=>by
 obtain⟨i,_,rfl⟩:=iK.mp he
 exact SD.int i
theorem K_.sd {x:cO} {c:Cv} {st:cJ} {bd lim:Int} {w:Nat} {d:PyData} (hx:iU x) (hv:yL c) (hs:eV st) (hl:lim<=900) (a:K_ x c st bd lim w d):SD 7 d:=by
 have big:∀{n:Nat} {b:Option Int},fH x c st b lim n->n<=900:=fun D=>by have:=D.hl; omega
 have two:∀{a b:PyData},SD 6 a->SD 6 b->SD 7 (.tuple [a,b]):=fun ha hb=>SD.tup (by show 2<=1000; decide) fun e he=>by
  rcases b7.mp he with rfl | he
  ·exact ha
  ·rcases b7.mp he with rfl | he
   ·exact hb
   ·cases he
 have ents:∀{n:Nat} {b:Option Int},fH x c st b lim n->SD 6 (Gd (aJ x c st n)):=fun {n b} D=>SD.ents (n:=0) hv (by rw[D.hn]; have:=big D; omega) (jJ hx hv hs n)
 have brk:∀{p cc:Nat} {b:Option Int},jz x c st b lim p cc->SD 6 (wM (jZ x c st p cc)):=fun {p cc b} Bk=>SD.Wf (n:=4) (by
  have h1:=Bk.hl
  have h2:=kO (BW Bk.hp (c:=cc)) (cA x c st p cc).length p
  unfold jZ
  rw[fP]
  show _+1<=_
  omega)
 cases a with
 | U3 n D=>exact SD.ents (n:=1) hv (by rw[D.hn]; have:=big D; omega) (jJ hx hv hs n)
 | U0 p cc M=>exact SD.str (by decide +kernel)
 | Xw n D=>exact two (SD.str (by decide +kernel)) (ents D)
 | Xy p cc Bk=>exact two (SD.str (by decide +kernel)) (brk Bk)
 | opM p cc M=>exact SD.str (by decide +kernel)
 | lbD n j D D2 hj=>exact two (SD.int _) (SD.Wf (n:=4) (by have h1:=kO (lM (x:=x) (cv:=c) (st:=st) n) (aJ x c st n).length j; have h2:=big D; rw[D.hn] at h1 ⊢; omega))
 | lbB n p cc D Bk=>exact two SD.none (brk Bk)
 | lbM p cc M=>exact SD.str (by decide +kernel)
theorem Ku {m:Nat}:∀{ls:List (List fX)},(∀l∈ls,l.length<=m)->ls.flatten.length<=ls.length*m
 | [],_=>by simp
 | l::ls,h=>by
  have h1:=h l (by simp)
  have h2:=Ku (ls:=ls) fun l' hl'=>h l' (by simp[hl'])
  rw[Ex,fP,jD,Nat.succ_mul]
  omega
theorem Xl {x:cO} (h:Su x):Dr x:=⟨by
 have h1:=Ku (m:=4) (ls:=x.dZ) fun l hl=>(h.r l hl).hi
 have h2:=h.n
 have h3:x.dZ.length*4<=3*4:=Nat.mul_le_mul_right 4 h2
 omega,fun r hr=>by
 obtain⟨l,hl,hr'⟩:=List.mem_flatten.mp hr
 exact((h.r l hl).g r hr').is⟩
theorem Q0 {c:Cv} {m:Int} (hv:yL c) (h:∀q∈c,q.2+q.1<=m):cF c (c.map (·.1))<=m:=by
 obtain⟨⟨i,p,l,e1,e2,e⟩,_⟩:=Cm hv.ne (show(c.map (·.1)).length=c.length by rw[bR])
 rw[gM,e1] at e2
 cases e2
 have:p.2+p.1<=m:=h p (jm e1)
 rw[e]; exact this
end
theorem wV:∀(cs:List Int) (g:Int),(aY cs g).1.sum=cs.sum-g+(aY cs g).2
 | [],g=>by simp[aY]; omega
 | c::cs,g=>by
  have:=wV cs g
  rw[aY,Er,Er,this]
  simp only
  generalize (if(aY cs g).2<c then(aY cs g).2 else c)=z
  omega
theorem Ae:∀(cs:List Int) (g:Int),(∀c∈cs,0<=c)->0<=g->(∀c∈(aY cs g).1,0<=c)/\0<=(aY cs g).2/\((aY cs g).2=0\/(aY cs g).1.sum=0)
 | [],g,_,hg=>⟨by simp[aY],by simpa[aY] using hg,.inr (by simp[aY])⟩
 | c::cs,g,h,hg=>by
  obtain⟨h1,h2,h3⟩:=Ae cs g (fun y hy=>h y (iM _ hy)) hg
  have hc:=h c jl
  rw[aY]
  simp only
  generalize hG:(aY cs g).2=G at *
  refine⟨fun y hy=>?_,?_,?_⟩
  ·rcases b7.mp hy with z | z
   ·rw[z]; split <;> omega
   ·exact h1 y z
  ·split <;> omega
  ·rw[Er]
   split <;> omega
structure Wth (x:cO) (st n:cJ) (ch:Int):Prop where
 w:n.w=st.w
 s:n.s=st.s
 u:n.us=st.us
 r:0<=n.r
 c:n.cs.length=5
 cn:∀y∈n.cs,0<=y
 sm:n.r+n.cs.sum=st.r+st.cs.sum+ch
 t:n.t=if ch=0 then st.t else if 0<ch then x.u else x.d
theorem uP {x:cO} {st:cJ} {ch:Int} (ha:x.a<=4) (hr:0<=st.r) (hl:st.cs.length=5) (hc:∀y∈st.cs,0<=y) (hz:0<=st.r+st.cs.sum+ch):Wth x st (cP x st ch) ch:=by
 by_cases c1:ch=0
 ·subst c1
  have e:cP x st 0=st:=rfl
  rw[e]
  exact⟨rfl,rfl,rfl,hr,hl,hc,by omega,rfl⟩
 ·by_cases c2:0<ch
  ·have e:cP x st ch={ st with cs:=st.cs.take x.a++[st.cs.getD x.a 0+ch]++st.cs.drop (x.a+1),t:=x.u }:=by unfold cP; rw[bB c1,aL c2]
   rw[e]
   refine⟨rfl,rfl,rfl,hr,?_,?_,?_,?_⟩
   ·simp only[fP,jj,vJ,jD,List.length_nil]
    omega
   ·intro y hy
    rcases oH.mp hy with z | z
    ·rcases oH.mp z with z | z
     ·exact hc y (JH z)
     ·rw[fU.mp z]
      have hlt:x.a<st.cs.length:=by omega
      have:0<=st.cs.getD x.a 0:=by
       rw[fJ,fM hlt]
       exact hc _ (BJ hlt)
      omega
    ·exact hc y (List.mem_of_mem_drop z)
   ·show st.r+(st.cs.take x.a++[st.cs.getD x.a 0+ch]++st.cs.drop (x.a+1)).sum=_
    obtain⟨y0,y1,y2,y3,y4,ey⟩:=Q8 hl
    rw[ey]
    have:x.a=0\/x.a=1\/x.a=2\/x.a=3\/x.a=4:=by omega
    rcases this with e | e | e | e | e <;> rw[e] <;> simp <;> omega
   ·show x.u=_
    rw[bB c1,aL c2]
  ·have e:cP x st ch={ st with r:=st.r-(aY st.cs (-ch)).2,cs:=(aY st.cs (-ch)).1,t:=x.d }:=by unfold cP; rw[bB c1,bB c2]
   rw[e]
   obtain⟨k1,k2,k3⟩:=Ae st.cs (-ch) hc (by omega)
   have k4:=wV st.cs (-ch)
   have k5:=Bl _ k1
   refine⟨rfl,rfl,rfl,?_,?_,k1,?_,?_⟩
   ·show 0<=st.r-(aY st.cs (-ch)).2
    omega
   ·show(aY st.cs (-ch)).1.length=5
    rw[lO]; exact hl
   ·show st.r-(aY st.cs (-ch)).2+(aY st.cs (-ch)).1.sum=_
    omega
   ·show x.d=_
    rw[bB c1,bB c2]
theorem iC {st:cJ} (h:st.cs.length=5):cB st+(st.cs.drop 1++[0]).sum=st.r+st.cs.sum:=by
 obtain⟨a,b,c,d,e,hc⟩:=Q8 h
 unfold cB
 rw[hc]
 simp
 omega
theorem Eb {st:cJ} (h:st.cs.length=5) (hr:0<=st.r) (hc:∀y∈st.cs,0<=y):0<=cB st:=by
 obtain⟨a,b,c,d,e,ec⟩:=Q8 h
 have:=hc a (by rw[ec]; exact jl)
 unfold cB; rw[ec]; show 0<=st.r+a; omega
theorem Fx {st:cJ} (hc:∀y∈st.cs,0<=y):∀y∈st.cs.drop 1++[0],0<=y:=fun y hy=>by
 rcases oH.mp hy with z | z
 ·exact hc y (List.mem_of_mem_drop z)
 ·rw[fU.mp z]; exact uc 0
theorem tX:∀cs:List Int,(∀c∈cs,0<=c)->aY cs 0=(cs,0)
 | [],_=>rfl
 | c::cs,h=>by
  have hc:=h c jl
  rw[aY,tX cs fun y hy=>h y (iM _ hy)]
  simp only
  have e:(if 0<c then(0:Int) else c)=0:=by split <;> omega
  rw[e,Em,Em]
theorem Ab:∀(cs:List Int) (n:Int),
  (∀j:Nat,j<cs.length->0<(aY cs n).1.getD j 0->(∀k:Nat,j<k->k<cs.length->¬0<(aY cs n).1.getD k 0)->aY cs (n+1)=((aY cs n).1.set j ((aY cs n).1.getD j 0-1),(aY cs n).2)) /\
  ((∀k:Nat,k<cs.length->¬0<(aY cs n).1.getD k 0)->aY cs (n+1)=((aY cs n).1,(aY cs n).2+1))
 | [],n=>⟨fun j hj=>by simp at hj,fun _=>rfl⟩
 | c::cs,n=>by
  obtain⟨iA,iB⟩:=Ab cs n
  rw[aY,aY]
  generalize hd:(aY cs n).1=ds at *
  generalize hm:(aY cs n).2=m at *
  simp only
  refine⟨fun j hj hp hq=>?_,fun hq=>?_⟩
  ·cases j with
   | zero=>
    have hB:=iB fun k hk=>by
     have:=hq (k+1) (by omega) (by rw[jD]; omega)
     simpa using this
    have hp':0<c-(if m<c then m else c):=by simpa using hp
    rw[hB]
    simp only[List.getD_cons_zero,List.set_cons_zero]
    split at hp'
    ·rename_i z
     rw[aL z]
     by_cases z2:m+1<c
     ·rw[aL z2]
      refine Prod.ext ?_ ?_
      ·simp only; congr 1; omega
      ·simp only; omega
     ·rw[bB z2]
      refine Prod.ext ?_ ?_
      ·simp only; congr 1; omega
      ·simp only; omega
    ·omega
   | succ j=>
    have hA:=iA j (by rw[jD] at hj; omega) (by simpa using hp) fun k h1 h2=>by
     have:=hq (k+1) (by omega) (by rw[jD]; omega)
     simpa using this
    rw[hA]
    simp
  ·have hB:=iB fun k hk=>by
    have:=hq (k+1) (by rw[jD]; omega)
    simpa using this
   have h0:=hq 0 (by rw[jD]; omega)
   have h0':¬0<c-(if m<c then m else c):=by simpa using h0
   rw[hB]
   simp only
   split at h0'
   ·omega
   ·rename_i z
    rw[bB z,bB (by omega)]
    refine Prod.ext rfl ?_
    simp only; omega
theorem J_ (kp:Nat->Bool) (f:Nat->V):∀n:Nat,(((List.range n).filter kp).map f=[]/\∀k,k<n->kp k=false) \/
  ∃(j:Nat) (ini:List V),j<n/\kp j=true/\(∀k,j<k->k<n->kp k=false)/\((List.range n).filter kp).map f=ini++[f j]
 | 0=>.inl ⟨rfl,fun k h=>by omega⟩
 | n+1=>by
  have hs:=Ag kp f n
  cases e:kp n with
  | true=>
   rw[e,aL rfl] at hs
   exact .inr ⟨n,_,by omega,e,fun k h1 h2=>by omega,hs⟩
  | false=>
   rw[e,bB (by decide),lZ] at hs
   rcases J_ kp f n with⟨h1,h2⟩ | ⟨j,ini,h1,h2,h3,h4⟩
   ·refine .inl ⟨by rw[hs]; exact h1,fun k hk=>?_⟩
    by_cases z:k=n
    ·rw[z]; exact e
    ·exact h2 k (by omega)
   ·refine .inr ⟨j,ini,by omega,h2,fun k k1 k2=>?_,by rw[hs]; exact h4⟩
    by_cases z:k=n
    ·rw[z]; exact e
    ·exact h3 k k1 (by omega)
theorem W_ {l:List Int} {a:Nat} {v:Int} (h:a<l.length):l.set a v=l.take a++[v]++l.drop (a+1):=by
 rw[List.set_eq_take_append_cons_drop,aL h,vL]; rfl
section
variable {P:Program} {w:World} {K:PySem.W.Frag} {mg:Str->Option Value} {base:Heap} {f:Addr} {fd:FuncData} {k:Nat}
structure Yr (st:cJ):Prop where
 is:eV st
 r:0<=st.r
 cn:∀y∈st.cs,0<=y
 sm:st.r+st.cs.sum<=12
 t:0<=st.t
theorem StL.toW {x:cJ} (h:StL x):Yr x:=⟨h.is,h.r,h.cn,h.sm,h.t.1⟩
theorem Yr.next {x:cO} {st:cJ} {c:Int} (hx:Su x) (hs:Yr st):Yr (jq x st c):=by
 have hc5:=hs.is.c
 have h0:=Bl _ hs.cn
 have h1:=hs.r
 have h2:=hs.sm
 have hlo:=hx.lo
 have hhi:=hx.hi
 have hwb:0<=gB x.dZ x.lo x.hi (st.r+st.cs.sum) (cg x st c)/\gB x.dZ x.lo x.hi (st.r+st.cs.sum) (cg x st c)<=12:=by
  unfold gB
  simp only
  repeat' split <;> try omega
 have hbd:0<=st.r+st.cs.sum+lY x st c 12/\st.r+st.cs.sum+lY x st c 12<=12:=by
  unfold lY
  rw[iC hc5]
  split
  ·unfold qO
   split <;> omega
  ·omega
 have YL:(st.cs.drop 1++[0]).length=5:=by simp[hc5]
 have hW:=uP (x:=x) (st:=cW x st c) (ch:=lY x st c 12) hx.a (Eb hc5 hs.r hs.cn) YL (Fx hs.cn) (by show 0<=cB st+(st.cs.drop 1++[0]).sum+lY x st c 12; rw[iC hc5]; exact hbd.1)
 refine⟨uE hx.is hs.is,hW.r,hW.cn,?_,?_⟩
 ·show(cP x (cW x st c) (lY x st c 12)).r+_<=12
  have:=hW.sm
  have e:(cW x st c).r+(cW x st c).cs.sum=st.r+st.cs.sum:=iC hc5
  rw[e] at this
  show(cP x (cW x st c) (lY x st c 12)).r+(cP x (cW x st c) (lY x st c 12)).cs.sum<=12
  omega
 ·show 0<=(cP x (cW x st c) (lY x st c 12)).t
  rw[hW.t]
  have:=hx.u
  have:=hx.d
  have:=hs.t
  show 0<=(if lY x st c 12=0 then(if 0>st.t-1 then 0 else st.t-1) else if 0<lY x st c 12 then x.u else x.d)
  repeat' split <;> try omega
def Pz:Sp:=fun vs H Q _=>∃(v:V) (p:Addr) (h:Int) (r:fX) (cD:List (List Int)) (xs:List V),vs=[v,.int h,.ref p]/\At H (pq r) v/\H p=some (.lst xs)/\ak H (cD.map jg) xs/\R6 r/\j0 cD/\∀H',aF H H'->Q (ql (says r h cD)) H'
theorem oN:aV ["_law_row_here","_law_hands","_law_newest","_law_what","_law_span","_law_sign","_law_number","_law_step","_law_at","_law_total"] ["_law_row_here","_law_hands","_law_newest"] (aH lF):=(by walk_at "c")
theorem yj (F:iW K "_law_row_wish" "_law_row_wish" lF f fd) (B:Bi mg):bQ P w K mg base iH (k+1) f fd ["_law_row_here","_law_hands","_law_newest"] Pz:=by
 refine F.ok oN (by rintro vs H Q E ⟨v,p,h,r,cD,xs,rfl,_⟩; rfl) (fun cdv A outer s H vs Q E hr h=>?_)
 obtain⟨rA,p,hh,r,cD,xs,rfl,a1,h1,a2,hR,hN,q⟩:=h
 have ND:=oN.nd
 refine⟨_,(aq (cU (pv 0) (bJ (K:=K) (n:=5) rfl rfl (aC (aD (i:=3) ND rfl (by walk_at "o")) (aC (aD (i:=4) ND rfl (by walk_at "o")) (aC (aD (i:=5) ND rfl (by walk_at "o")) (aC (aD (i:=6) ND rfl (by walk_at "o")) (aC (aD (i:=7) ND rfl (by walk_at "o")) bI))))))) (aq (aW (i:=8) ND rfl (by walk_at "o") (mZ (K:=K) rfl PySem.F.plainAttrs_list PySem.F.slot_list_index PySem.F.type_list_index M3 (b8 (aa dN (aa dN (aa dN aj)))) (aa (pv 3) aj))) (aq (aW (i:=9) ND rfl (by walk_at "o") (pb (lg rfl) B.sum xN (aa (iw (N':=["_law_one","_law_at"]) (js:=[8]) rfl (mY (K:=K) rfl (dh pZ (pv 2) eY (cV (pv 4)))) uO.mk1 rfl (by decide) rfl (fun fp s' H'=>(aZ aO (pv 0) (pv 1) (fun _ _=>rfl)))) aj))) (aq (dJ (a_ iV (pv 5) dN (aR _)) (aG (aX (aM vZ (aM du (aM bD (pv 9) (aM fC (pv 6) (pv 4))) ao) (aM fC (pv 6) (pv 4))))) bT) (aq (dJ (a_ iV (pv 5) dN (aR _)) (aG (aX (eQ (a_ jn (pv 9) (aM fC (pv 6) (pv 4)) (aR _)) (aM bD (pv 1) (pv 7)) dR))) bT) (aG (aX (eQ (a_ tV (pv 9) (aM fC (pv 6) (pv 4)) (aR _)) (aM bD (pv 1) (pv 7)) dR)))))))),?_⟩
 obtain⟨ra,rfl,g1⟩:=row_shape a1
 walk_at "rd"
 refine⟨ra,_,rfl,cG.of g1,rfl,?_⟩
 walk_at "rd"
 have hRi:=hR.is
 refine⟨(by decide),fun p2 H2 f2 s2 e2=>⟨.inl ⟨rfl,_,dX.of e2⟩,p2,r.w,rfl,e2,rfl,hRi.w,?_⟩⟩
 show gK _ _ _ _ _ _
 rw[Li]
 walk_at "rd"
 refine⟨p,_,rfl,dX.of (s2 _ _ h1),fun p3 f3=>?_⟩
 rw[nu (by omega),rW]
 have s3:=aK f3 (HO.lst (xs.take r.s))
 have e3:upd H2 p3 (HO.lst (xs.take r.s)) p3=some (.lst (xs.take r.s)):=az
 generalize upd H2 p3 (HO.lst (xs.take r.s))=H3 at s3 e3 ⊢
 have a3:ak H3 ((cD.take r.s).map jg) (xs.take r.s):=by rw[vO]; exact(a2.take r.s).mono (s2.trans s3)
 have hs4:=hRi.s
 have htl:(cD.take r.s).length<=4:=by rw[jj]; omega
 refine LCK.of (es:=((cD.take r.s).map fun l=>l.getD (c7 r.w) 0).map .int) e3 (by rw[a3.length,bR,bR,bR]) (jB (bw (by rw[bR,bR]; omega))) (m8 _) (fun i y e H' hy he s' R hR'=>?_) (fun acc ys H' s' aaF hl hA=>?_)
 ·obtain⟨d,q1,q2⟩:=a3.get hy
  rw[gM] at q1
  obtain⟨l,el,rfl⟩:=mX.mp q1
  obtain⟨c,zs,rfl,k1,k2⟩:=bC (q2.mono s')
  cases cI k2
  rw[gM,gM,el] at he
  cases he
  have l3:l.length=3:=hN.l l (JH (jm el))
  have hw:=rC r.w
  show Tf _ _ _ [some _,some (.int _)] H' R
  walk_at "rd"
  refine Ix.tup k1 (v:=.int (l.getD (c7 r.w) 0)) (bx (by rw[gM,fM (by omega),fJ,fM (by omega)]; rfl)) ?_
  exact hR' _ _ (aF.refl _) (At.int _)
 ·have hys:=cI hA
  rw[hys] at hl
  refine⟨acc,_,rfl,.inl hl,?_⟩
  have sm:=s2.trans (s3.trans s')
  have q1:=q H' sm
  unfold says at q1
  have et:((cD.take r.s).map fun l=>l.getD (c7 r.w) 0).sum=j7 r.w r.s cD:=rfl
  rw[et]
  have cm:R_ r.n r.s:=.inr (by omega)
  refine fW (fun c1=>?_) (fun c1=>?_)
  ·have c1':=yc c1
   rw[aL c1'] at q1
   have h1n:=hRi.e c1'
   have hpos:0<r.n*(r.s:Int):=Int.mul_pos (by omega) (by omega)
   have hup:r.n*(r.s:Int)<=1000000000000000000000000000000*4:=Int.mul_le_mul hRi.n.2 (by omega) (by omega) (by decide)
   exact⟨cm,cm,⟨hpos,Int.lt_of_le_of_lt hup (by decide)⟩,q1⟩
  ·have c1':=yd c1
   rw[bB c1'] at q1
   generalize j7 r.w r.s cD=tot at q1 ⊢
   refine fW (fun c2=>⟨cm,?_⟩) (fun c2=>⟨cm,?_⟩)
   ·have o1:=yc c2
    have u1:¬r.g = "under" := by rw[o1]; decide +kernel
    refine fW (fun c3=>?_) (fun c3=>?_)
    ·rw[aL (.inl ⟨o1,yc c3⟩)] at q1; exact q1
    ·rw[bB (fun z=>by rcases z with z | z; exact yd c3 z.2; exact u1 z.1)] at q1; exact q1
   ·have o1:=yd c2
    have u1:r.g = "under" := by
     have hG3:=hR.g
     simp only[b7,jQ,or_false] at hG3
     rcases hG3 with z | z | z
     ·exact absurd z o1
     ·exact z
     ·exact absurd z c1'
    refine fW (fun c3=>?_) (fun c3=>?_)
    ·rw[aL (.inr ⟨u1,yc c3⟩)] at q1; exact q1
    ·rw[bB (fun z=>by rcases z with z | z; exact o1 z.1; exact yd c3 z.2)] at q1; exact q1
def tL:Option Int->PyData
 | none=>.none
 | some i=>.int i
theorem DY:∀os:List (Option Int),bM (os.map tL)=true
 | []=>rfl
 | o::os=>by
  show(uD (tL o)&&bM (os.map tL))=true
  rw[DY os]; cases o <;> rfl
theorem zp {G:Hp}:∀{os:List (Option Int)} {xs:List V},ak G (os.map tL) xs->xs=os.map ql
 | [],xs,h=>ak.mD h
 | o::os,xs,h=>by
  obtain⟨x,r,rfl,h1,h2⟩:=ak.bh h
  rw[zp h2]
  cases o with
  | none=>unfold tL At at h1; rw[h1]; rfl
  | some i=>unfold tL At at h1; rw[h1]; rfl
theorem Bt {l:List V} {d:V} {P:V->Bool}:((List.range l.length).filter fun i=>P (l.getD i d)).map (fun i=>l.getD i d)=l.filter P:=by
 have e:(List.range l.length).map (fun i=>l.getD i d)=l:=by
  apply Et
  ·simp
  ·intro i h1 h2
   rw[List.getElem_map,Ez,fJ,fM h2]; rfl
 have:=gW (List.filter P) e
 rw[List.filter_map] at this
 exact this
theorem rJ:∀os:List (Option Int),(os.map ql).filter (fun v=>!decide (v=V.non))=(os.filterMap id).map V.int
 | []=>rfl
 | none::os=>by
  rw[x_,List.filter_cons,Lz]
  simp only[ql,decide_true,xZ,jk,if_false,id]
  exact rJ os
 | some i::os=>by
  rw[x_,List.filter_cons,Lz]
  have e:(!decide (ql (some i)=V.non))=true:=by simp[ql]
  rw[aL e,rJ os]; rfl
def Vd (h:Int):List Int->Int
 | []=>h
 | i::_=>i
theorem tM (h:Int) (cD:List (List Int)):∀rs:List fX,dI h cD rs=Vd h ((rs.map fun r=>says r h cD).filterMap id)
 | []=>rfl
 | r::rs=>by
  rw[dI,x_,Lz]
  cases e:says r h cD with
  | none=>simp only[id]; exact tM h cD rs
  | some i=>rfl
def Jm:Sp:=fun vs H Q _=>∃(v:V) (p:Addr) (h:Int) (x:cO) (cD:List (List Int)) (xs:List V),vs=[v,.int h,.ref p]/\At H (gZ x) v/\H p=some (.lst xs)/\ak H (cD.map jg) xs/\Su x/\j0 cD/\∀H',aF H H'->Q (.int (gB x.dZ x.lo x.hi h cD)) H'
theorem y_:aV ["_law_post","_law_hands","_law_newest","_law_wishes","_law_rule","_law_said","_law_some","_law_wanted"] ["_law_post","_law_hands","_law_newest"] (aH vq):=(by walk_at "c")
theorem Mu (F:iW K "_law_wish" "_law_wish" vq f fd) (B:Bi mg) (Dd:Ct P w K mg base k "_law_row_wish" ["_law_row_here","_law_hands","_law_newest"] Pz):bQ P w K mg base iH (k+1) f fd ["_law_post","_law_hands","_law_newest"] Jm:=by
 refine F.ok y_ (by rintro vs H Q E ⟨v,p,h,x,cD,xs,rfl,_⟩; rfl) (fun cdv A outer s H vs Q E hr h=>?_)
 obtain⟨pA,p,hh,x,cD,xs,rfl,a1,h1,a2,hx,hN,q⟩:=h
 have ND:=y_.nd
 refine⟨_,(aq (aW (i:=3) ND rfl (by walk_at "o") (b8 aj)) (aq (g8 PassesOwn.never rfl (i_ (K:=K) rfl (aZ aO (pv 0) ao (fun _ _=>rfl))) (aD (i:=4) ND rfl (by walk_at "o")) (aq (JM (i:=5) ND rfl (by walk_at "o") (N':=["_law_row_here","_law_hands","_law_newest"]) (js:=[1,2]) rfl (i_ (K:=K) rfl (pv 4)) uO.mk2 rfl (by decide) rfl (fun fp s' H'=>(pf Dd hr (aa (pv 0) (aa (pv 1) (aa (pv 2) aj)))))) (aq (vR (i:=6) ND rfl (by walk_at "o") (nt:=1) (N':=["_law_one"]) (js:=[]) rfl (mY (K:=K) rfl (pv 5)) j6.of (fun fp s' H'=>(aD (i:=0) (by show List.Nodup (["_law_one"]:List Str); decide) rfl (.inl (je rfl)) (.inr (je rfl)))) (fun fp s' H'=>Cw (a_ jH (pv 0) dR (aR _))) (fun fp s' H'=>(pv 0))) (aG (iZ (mZ (K:=K) rfl PySem.F.plainAttrs_list PySem.F.slot_list_append PySem.F.type_list_append fZ (pv 3) (aa (eQ (a_ (BX hr.units) (pv 6) (b8 aj) (aR _)) (aZ aO (pv 6) ao (fun _ _=>rfl)) (pv 1)) aj))))))) (aq (aW (i:=7) ND rfl (by walk_at "o") (eQ (a_ (BX hr.units) (pv 3) (b8 aj) (aR _)) (pb (Ak rfl) B.max iT (aa (pv 3) aj)) (pv 1))) (aG (aX (pb (e_ rfl) B.max iT (aa (aZ aO (aZ aO (pv 0) ao (fun _ _=>rfl)) ao (fun _ _=>rfl)) (aa (pb (dU rfl) B.min il (aa (aZ aO (aZ aO (pv 0) ao (fun _ _=>rfl)) ao (fun _ _=>rfl)) (aa (pv 7) aj))) aj)))))))),?_⟩
 obtain⟨pa,pb,pc,pd,rfl,p1,p2,p3,p4⟩:=lJ a1
 walk_at "rd"
 refine⟨(by decide),fun pw H2 f2 s2 e2=>?_⟩
 obtain⟨_,rs,ep,gr,ar⟩:=bC p4
 cases ep
 have lrs:rs.length=x.dZ.length:=by rw[ar.length,bR]
 rw[uU]
 walk_at "rd"
 refine Ix.tup (s2 _ _ p1) (v:=.ref pd) rfl ?_
 refine TK.of (s2 _ _ gr) (fun i σ H'=>∃(o4 o5 o6 o7:Option V),σ=[some (.ref pa),some (.int hh),some (.ref p),some (.ref pw),o4,o5,o6,o7]/\H' pw=some (.lst (((x.dZ.take i).map (dI hh cD)).map V.int))/\SX pw H H')
  ⟨_,_,_,_,rfl,e2,SX.of s2⟩ (fun i σ H' _ ⟨_,_,_,_,_,_,sx⟩=>(SX.same f2 sx) _ _ gr) ?_ ?_
 ·rintro i y σ H3 hy ⟨o4,o5,o6,o7,rfl,e3,sx⟩
  have sm:=SX.same f2 sx
  obtain⟨d,ed,ad⟩:=ar.get hy
  rw[gM] at ed
  obtain⟨rl,erl,rfl⟩:=mX.mp ed
  have hG:=hx.r rl (jm erl)
  obtain⟨ra,zs,rfl,g1,g2⟩:=bC (ad.mono sm)
  have lz:zs.length=rl.length:=by rw[g2.length,bR]
  walk_at "rd"
  refine Vg (es:=(rl.map fun r=>says r hh cD).map tL) (fun R hR=>?_) g1 (by rw[bR,bR,lz]) (jB (bw (by rw[bR,bR]; have:=hG.hi; omega))) (DY _) (fun j z e H' hz he s' R hR=>?_) (fun acc ys H4 s4 aaF h4 hA=>?_)
  ·walk_at "rd"; exact hR
  ·obtain⟨d,q1,q2⟩:=g2.get hz
   rw[gM] at q1
   obtain⟨r,er,rfl⟩:=mX.mp q1
   rw[gM,gM,er] at he
   cases he
   show pW _ _ _ _ [some _,some (.int hh),some (.ref p)] H' R
   walk_at "rd"
   refine⟨_,p,hh,r,cD,xs,rfl,q2.mono s',(sm.trans s') _ _ h1,a2.mono (sm.trans s'),hG.g r (jm er),hN,fun cZ s''=>hR _ _ s'' ?_⟩
   show At cZ (tL (says r hh cD)) (ql (says r hh cD))
   cases says r hh cD with
   | none=>exact At.non
   | some i=>exact At.int _
  ·have hys:=zp hA
   have lys:ys.length=rl.length:=by rw[hys,bR,bR]
   have e4:H4 pw=some (.lst (((x.dZ.take i).map (dI hh cD)).map V.int)):=s4 _ _ e3
   refine KN (fun j=>!decide (ys.getD j .non=V.non)) (fun j=>ys.getD j .non) (fun R hR=>?_) h4 (by have:=hG.hi; omega) (fun j z H' hz s' R hR=>?_) (fun j z H' hz hk s' R hR=>?_) (fun Ja H5 s5 aeQ h5=>?_)
   ·walk_at "rd"; exact hR
   ·walk_at "rd"
    have ez:ys.getD j .non=z:=by rw[fJ,hz]; rfl
    rw[ez] at hR
    exact⟨trivial,hR⟩
   ·walk_at "rd"
    have ez:ys.getD j .non=z:=by rw[fJ,hz]; rfl
    rw[ez] at hR
    exact hR
   ·rw[Bt (P:=fun v=>!decide (v=V.non)),hys,rJ] at h5
    have hrw:=tM hh cD rl
    generalize hI:(rl.map fun r=>says r hh cD).filterMap id=is at h5 hrw
    have e5:=s5 _ _ e4
    have s35:=s4.trans s5
    have ap:∀(v:Int) (H6:Hp),v=dI hh cD rl->aF H5 H6->Jx (V.ref pw) [V.int v] H6 (fun _ H1=>∃(o4 o5 o6 o8:Option V),[some (V.ref pa),some (V.int hh),some (V.ref p),some (V.ref pw),some (V.ref ra),some (V.ref acc),some (V.ref Ja),o7]=[some (V.ref pa),some (V.int hh),some (V.ref p),some (V.ref pw),o4,o5,o6,o8]/\H1 pw=some (HO.lst (List.map V.int (List.map (dI hh cD) (List.take (i+1) x.dZ))))/\SX pw H H1):=fun v H6 hv s6=>by
     refine⟨pw,_,_,rfl,rfl,s6 _ _ e5,bw (by rw[bR,bR,jj]; have:=hx.n; omega),?_⟩
     refine⟨_,_,_,_,rfl,?_,(sx.trans (SX.of (s35.trans s6))).trans SX.upd⟩
     rw[take_snoc erl,jC,jC,hv]
     exact az
    refine⟨.inl ⟨rfl,_,dX.of e5⟩,(by decide),fun p6 H6 f6 s6 e6=>?_⟩
    have z:=n_ is
    refine⟨.list (is.map .int),.list [],At.lst (s6 _ _ h5) (bH _),At.lst e6 ak.nil,z.1,rfl,z.2.1,rfl,z.2.2,?_⟩
    cases is with
    | nil=>
     have eq:PyData.eqv (.list (([]:List Int).map .int)) (.list [])=true:=rfl
     rw[eq,bB (by decide)]
     exact ap hh H6 hrw.symm s6
    | cons i0 is'=>
     have eq:PyData.eqv (.list ((i0::is').map .int)) (.list [])=false:=rfl
     rw[eq,aL (by decide)]
     exact Ix.lst (s6 _ _ h5) (v:=.int i0) (bx (j:=0) rfl) (ap i0 H6 hrw.symm s6)
 ·rintro σ H3 ⟨o4,o5,o6,o7,rfl,e3,sx⟩
  have sm:=SX.same f2 sx
  rw[lrs,pC] at e3
  walk_at "rd"
  refine⟨(by decide),fun p4' H4 f4 s4 e4=>?_⟩
  have fin:∀w:Int,w=topOf hh (x.dZ.map (dI hh cD))->∀H5,aF H H5->Ec (V.ref pa) (V.int 2) H5 fun x H1=>Ec x (V.int 0) H1 fun x H1=>Ec (V.ref pa) (V.int 2) H1 fun x_1 H1=>Ec x_1 (V.int 1) H1 fun x_2 H1=>∃i j,[x_2,V.int w]=[V.int i,V.int j]/\∃i_1 j_1,[x,V.int (if j<i then j else i)]=[V.int i_1,V.int j_1]/\Q (V.int (if j_1>i_1 then j_1 else i_1)) H1:=fun w hw H5 s5=>by
   refine Ix.tup (s5 _ _ p1) (v:=.ref pb) rfl (Ix.tup (s5 _ _ p2) (v:=.int x.lo) rfl (Ix.tup (s5 _ _ p1) (v:=.ref pb) rfl (Ix.tup (s5 _ _ p2) (v:=.int x.hi) rfl ⟨_,_,rfl,_,_,rfl,?_⟩)))
   have h9:=q H5 s5
   have e9:gB x.dZ x.lo x.hi hh cD=(if(if w<x.hi then w else x.hi)>x.lo then(if w<x.hi then w else x.hi) else x.lo):=by
    unfold gB
    rw[<- hw]
    have:=hx.lo
    simp only
    repeat' split <;> try omega
   rw[e9] at h9
   exact h9
  have z:=n_ (x.dZ.map (dI hh cD))
  refine⟨.list ((x.dZ.map (dI hh cD)).map .int),.list [],At.lst (s4 _ _ e3) (bH _),At.lst e4 ak.nil,z.1,rfl,z.2.1,rfl,z.2.2,?_⟩
  have sm4:=sm.trans s4
  have e3':=s4 _ _ e3
  cases hW:x.dZ.map (dI hh cD) with
  | nil=>
   have eq:PyData.eqv (.list (([]:List Int).map .int)) (.list [])=true:=rfl
   rw[eq,bB (by decide)]
   exact fin hh (by rw[hW]; rfl) _ sm4
  | cons w0 ws=>
   have eq:PyData.eqv (.list ((w0::ws).map .int)) (.list [])=false:=rfl
   rw[eq,aL (by decide)]
   rw[hW] at e3'
   refine⟨pw,w0,ws,rfl,e3',?_⟩
   exact fin _ (by rw[hW]; rfl) _ sm4
theorem lock {p:Prop} (h:p):p:=h
theorem d8.open {a b:TS} {D:Ends} {σ:St} {H:Hp} (h:a { D with nx:=b D } σ H):d8 a b D σ H:=h
def Jo:Sp:=fun vs H Q _=>∃(v u:V) (x:cO) (st:cJ) (come:Int),vs=[v,u,.int come]/\At H (gZ x) v/\At H (lC st) u/\Su x/\Yr st /\
 ∀p u' H',aF H H'->At H' (lC (jq x st come)) u'->H' p=some (.tup [u',.int (come-bL x st come)])->Q (.ref p) H'
theorem zj:aV ["_law_post","_law_stand","_law_come","_law_pace","_law_room","_law_hands","_law_late","_law_every","_law_rests","_law_rules","_law_wait","_law_ready","_law_called","_law_since","_law_rest","_law_seen","_law_line","_law_here","_law_done","_law_newest","_law_change","_law_there","_law_k","_law_last"] ["_law_post","_law_stand","_law_come"] (aH vC):=(by walk_at "c")
theorem My (F:iW K "_law_beat" "_law_beat" vC f fd) (B:Bi mg) (RV:Ct P w K mg base k "_law_wish" ["_law_post","_law_hands","_law_newest"] Jm):bQ P w K mg base iH (k+1) f fd ["_law_post","_law_stand","_law_come"] Jo:=by
 refine F.ok zj (by rintro vs H Q E ⟨v,u,x,st,come,rfl,_⟩; rfl) (fun cdv A outer s H vs Q E hr h=>?_)
 obtain⟨pA,sA,x,st,come,rfl,a1,a2,hx,hs,q⟩:=h
 have ND:=zj.nd
 refine⟨_,(aq (cU (pv 0) (bJ (K:=K) (n:=7) rfl rfl (aC (aD (i:=3) ND rfl (by walk_at "o")) (aC (aD (i:=4) ND rfl (by walk_at "o")) (aC (aD (i:=5) ND rfl (by walk_at "o")) (aC (aD (i:=6) ND rfl (by walk_at "o")) (aC (aD (i:=7) ND rfl (by walk_at "o")) (aC (aD (i:=8) ND rfl (by walk_at "o")) (aC (aD (i:=9) ND rfl (by walk_at "o")) bI))))))))) (aq (cU (pv 1) (bJ (K:=K) (n:=6) rfl rfl (aC (aD (i:=10) ND rfl (by walk_at "o")) (aC (aD (i:=11) ND rfl (by walk_at "o")) (aC (aD (i:=12) ND rfl (by walk_at "o")) (aC (aD (i:=13) ND rfl (by walk_at "o")) (aC (aD (i:=14) ND rfl (by walk_at "o")) (aC (aD (i:=15) ND rfl (by walk_at "o")) bI)))))))) (aq (cU (bj (aa (aM bD (pv 11) (aZ aO (pv 12) ao (fun _ _=>rfl))) (aa (aM v_ (pt (sW) B.list jd (aa (dh iu (pv 12) (cV ao) eY) aj)) (b8 (aa ao aj))) aj))) (bJ (K:=K) (n:=2) rfl rfl (aC (aD (i:=11) ND rfl (by walk_at "o")) (aC (aD (i:=16) ND rfl (by walk_at "o")) bI)))) (aq (aW (i:=17) ND rfl (by walk_at "o") (aM bD (pv 10) (pb (dU rfl) B.min il (aa (pv 2) (aa (pb (e_ rfl) B.max iT (aa (aM du (pv 4) (pv 10)) (aa ao aj))) aj))))) (aq (aW (i:=18) ND rfl (by walk_at "o") (pb (dU rfl) B.min il (aa (pv 17) (aa (aM fC (pv 11) (pv 3)) aj)))) (aq (pF (i:=19) (j:=20) rfl ND rfl rfl (by decide) rfl rfl (aa (aM v_ (b8 (aa (bj (aa (pv 2) (aa (pv 18) (aa (aM du (pv 17) (pv 18)) aj)))) aj)) (pt (sW) B.list jd (aa (pv 15) aj))) (aa ao aj)) (by rfl)) (aq (dJ (PW.pt (sr (a_ JZ (aM bD (pv 13) ao) (pv 7) (aR _)) (nQ (a_ iV (pv 14) ao (aR _))))) (aq (aW (i:=21) ND rfl (by walk_at "o") (aM bD (pv 11) (pb (lg rfl) B.sum xN (aa (pv 16) aj)))) (aG (aW (i:=20) ND rfl (by walk_at "o") (pb (dU rfl) B.min il (aa (aM du (pf RV hr (aa (pv 0) (aa (pv 21) (aa (pv 19) aj)))) (pv 21)) (aa ao aj)))))) bT) (aq (dJ (a_ jn (pv 20) ao (aR _)) (aG (cU (aM bD (aZ aO (pv 16) (pv 6) (fun _ _=>rfl)) (pv 20)) (vX (pv 16) (pv 6) set_list))) bT) (aq (g8 PassesOwn.never rfl (cY (by rfl) B.range (aa (pb (e_ rfl) B.max iT (aa ao (aa (aM du ao (pv 20)) aj))) aj)) (aD (i:=22) ND rfl (by walk_at "o")) (aq (vR (i:=23) ND rfl (by walk_at "o") (nt:=1) (N':=["_law_place","_law_line"]) (js:=[16]) rfl (cY (by rfl) B.range (aa ao aj)) j6.of (fun fp s' H'=>(aD (i:=0) (by show List.Nodup (["_law_place","_law_line"]:List Str); decide) rfl (.inl (je rfl)) (.inr (je rfl)))) (fun fp s' H'=>Cw (a_ jn (aZ aO (pv 1) (pv 0) (fun _ _=>rfl)) ao (aR _))) (fun fp s' H'=>(pv 0))) (aG (dJ (a_ (BX hr.units) (pv 23) (b8 aj) (aR _)) (aG (cU (aM du (aZ aO (pv 16) (aZ aO (pv 23) (Ff uR ao) (fun _ _=>rfl)) (fun _ _=>rfl)) ao) (vX (pv 16) (aZ aO (pv 23) (Ff uR ao) (fun _ _=>rfl)) set_list))) (aG (aW (i:=11) ND rfl (by walk_at "o") (aM du (pv 11) ao))))))) (aq (aW (i:=14) ND rfl (by walk_at "o") (eQ (a_ JX (pv 20) ao (aR _)) (aZ aO (pv 8) (pt (lq) B.int tE (aa (dC tV (pv 20) ao (aR _)) aj)) (fun _ _=>rfl)) (pb (e_ rfl) B.max iT (aa ao (aa (aM du (pv 14) ao) aj))))) (aq (aW (i:=13) ND rfl (by walk_at "o") (eQ (a_ JZ (aM bD (pv 13) ao) (pv 7) (aR _)) ao (aM bD (pv 13) ao))) (aG (aX (bj (aa (bj (aa (aM du (pv 17) (pv 18)) (aa (pv 11) (aa (pt (cM) B.tuple cH (aa (pv 16) aj)) (aa (pv 13) (aa (pv 14) (aa (pt (cM) B.tuple cH (aa (dh pZ (pv 19) eY (cV ao)) aj)) aj))))))) (aa (aM du (aM bD (pv 10) (pv 2)) (pv 17)) aj)))))))))))))))),?_⟩
 obtain⟨pa,pb,pc,pd,rfl,p1,p2,p3,p4⟩:=lJ a1
 obtain⟨sa,sb,sc,rfl,g1,g2,g3⟩:=eX a2
 simp only[Qe,Js 15,Js 14,Js 17,Js 18]
 generalize hb:d8 _ _=b
 revert b
 refine lock ?_
 intro b hb
 walk_at "rd"
 refine⟨pa,_,rfl,cG.of p1,rfl,?_⟩
 walk_at "rd"
 refine⟨sa,_,rfl,cG.of g1,rfl,?_⟩
 walk_at "rd"
 have hc5:=hs.is.c
 have hxp:=hx.p
 have gc0:Dq (st.cs.map V.int) 0=some (.int (st.cs.getD 0 0)):=by
  obtain⟨y0,y1,y2,y3,y4,ey⟩:=Q8 hc5
  rw[ey]; rfl
 refine Ix.tup g2 (v:=.int (st.cs.getD 0 0)) gc0 ⟨_,_,rfl,rfl,sb,_,rfl,g2,fun q1 H1 s1 e1=>⟨q1,_,rfl,e1,fun l2 f2=>⟨(by decide),fun q3 H3 f3 s3 e3=>?_⟩⟩⟩
 rw[nC (by decide)] at s3
 have s2:=aK f2 (HO.lst ((st.cs.map V.int).drop (Int.toNat 1)))
 refine⟨l2,q3,_,_,rfl,rfl,s3 _ _ az,e3,by simp[hc5]; decide,fun pl fl=>?_⟩
 have nP:aF H H3:=s1.trans (s2.trans s3)
 have fl':H pl=none:=nP.free fl
 have el:(st.cs.map V.int).drop (Int.toNat 1)++[V.int 0]=(st.cs.drop 1++[0]).map V.int:=by simp
 rw[el]
 have s4:aF H (upd H3 pl (HO.lst ((st.cs.drop 1++[0]).map V.int))):=nP.trans (aK fl _)
 have e4:upd H3 pl (HO.lst ((st.cs.drop 1++[0]).map V.int)) pl=some (.lst ((st.cs.drop 1++[0]).map V.int)):=az
 generalize upd H3 pl (HO.lst ((st.cs.drop 1++[0]).map V.int))=H4 at s4 e4 ⊢
 refine⟨(by decide),fun q5 H5 f5 s5 e5=>⟨q5,_,rfl,cG.of e5,rfl,?_⟩⟩
 have s45:=s4.trans s5
 have e45:=s5 _ _ e4
 clear e1 e3 f2 f3 s1 s2 s3 nP e4 el
 walk_at "rd"
 subst hb
 refine d8.open ?_
 generalize hb:d8 _ _=b
 revert b
 refine lock ?_
 intro b hb
 walk_at "rd"
 subst hb
 refine d8.open ?_
 generalize hb:d8 _ _=b
 revert b
 refine lock ?_
 intro b hb
 walk_at "rd"
 refine⟨.inr (by omega),?_⟩
 have ert:(st.r+st.cs.getD 0 0)=cB st:=rfl
 have etk:(if(if 0>x.m-st.w then 0 else x.m-st.w)<come then(if 0>x.m-st.w then 0 else x.m-st.w) else come)=bL x st come:=rfl
 rw[ert,etk]
 have edn:(if cB st*x.p<st.w+bL x st come then cB st*x.p else st.w+bL x st come)=fu x st come:=rfl
 rw[edn]
 obtain⟨_,us,esc,gu,au⟩:=bC g3
 cases esc
 have lus:us.length=3:=by rw[au.length,bR,hs.is.u]
 refine⟨(by decide),fun q6 H6 f6 s6 e6=>⟨(by decide),fun q7 H7 f7 s7 e7=>Uy e7 ((s45.trans (s6.trans s7)) _ _ gu) (by rw[lus]; exact(by decide:4<=sizeLine)) fun pn H8 s8 e8=>⟨_,_,rfl,?_⟩⟩⟩
 have s58:=s6.trans (s7.trans s8)
 have s48:=s45.trans s58
 have e48:=s58 _ _ e45
 replace e8:H8 pn=some (.lst (V.ref q6::us)):=e8
 have aN:ak H8 ((cg x st come).map jg) (V.ref q6::us):=ak.cons (At.tup ((s7.trans s8) _ _ e6) (bH [come,fu x st come,st.w+bL x st come-fu x st come])) (au.mono s48)
 have hN:j0 (cg x st come):=⟨by show st.us.length+1=4; rw[hs.is.u],fun y hy=>by
  rcases b7.mp hy with z | z
  ·rw[z]; rfl
  ·exact hs.is.l y z⟩
 have npl:pn≠pl:=fun z=>by
  rw[z,e48] at e8
  have:=gW List.length (HO.lst.inj (Option.some.inj e8))
  rw[bR,jD,lus] at this
  simp[hc5] at this
 clear e6 e7 f6 f7 s6 s7 s8 e5 f5 s5 e45
 have YL:(st.cs.drop 1++[0]).length=5:=by simp[hc5]
 have hmn:∀y∈st.cs.drop 1++[0],0<=y:=Fx hs.cn
 have hrn:=Eb hc5 hs.r hs.cn
 subst hb
 refine d8.of (fun σ' H'=>aF H8 H'/\∃o:Option V,σ'=[some (V.ref pa),some (V.ref sa),some (V.int come),some (V.int x.p),some (V.int x.m),some (V.ref pb),some (V.int ↑x.a),some (V.int x.e),some (V.ref pc),some (V.ref pd),some (V.int st.w),some (V.int (cB st)),some (V.ref sb),some (V.int st.s),some (V.int st.t),some (V.ref sc),some (V.ref pl),some (V.int (st.w+bL x st come)),some (V.int (fu x st come)),some (V.ref pn),some (V.int (lY x st come 12)),o,none,none]) ?_ ?_
 rotate_left 1
 ·intro N sO
  walk_at "rd"
  by_cases c1:x.e<=st.s+1
  ·rw[aL (gC c1)]
   by_cases c2:st.t=0
   ·rw[aL (gC c2)]
    refine⟨pl,_,rfl,.inl e48,.ref pa,pn,_,x,cg x st come,_,rfl,a1.mono s48,e8,aN,hx,hN,fun H9 s9=>⟨_,_,rfl,rfl,sO _ _ ⟨s9,some (V.int (cB st+(st.cs.drop 1++[0]).sum)),?_⟩⟩⟩
    have e:lY x st come 12=(if 12<gB x.dZ x.lo x.hi (cB st+(st.cs.drop 1++[0]).sum) (cg x st come)-(cB st+(st.cs.drop 1++[0]).sum) then 12 else gB x.dZ x.lo x.hi (cB st+(st.cs.drop 1++[0]).sum) (cg x st come)-(cB st+(st.cs.drop 1++[0]).sum)):=by
     have hl:fV x.e st.s st.t=true:=by unfold fV; rw[bB (by omega)]; exact gC c2
     unfold lY
     rw[aL hl]; rfl
    rw[e]
   ·rw[bB (by simpa using c2)]
    have e:lY x st come 12=0:=by
     have hl:fV x.e st.s st.t=false:=by unfold fV; rw[bB (by omega)]; exact gY c2
     unfold lY
     rw[hl,bB (by decide)]
    rw[e] at sO
    exact sO _ _ ⟨aF.refl _,_,rfl⟩
  ·rw[bB (by simpa using c1)]
   have e:lY x st come 12=0:=by
    have hl:fV x.e st.s st.t=false:=by unfold fV; rw[aL (by omega)]
    unfold lY
    rw[hl,bB (by decide)]
   rw[e] at sO
   exact sO _ _ ⟨aF.refl _,_,rfl⟩
 rintro σ' H9 ⟨s89,o,rfl⟩
 have hbd:0<=st.r+st.cs.sum+lY x st come 12:=by
  have h0:=Bl _ hs.cn
  have h1:=hs.r
  unfold lY
  rw[iC hc5]
  split
  ·unfold qO
   have h2:0<=gB x.dZ x.lo x.hi (st.r+st.cs.sum) (cg x st come):=by
    have h3:=hx.lo
    unfold gB
    simp only
    repeat' split <;> try omega
   split <;> omega
  ·omega
 have hcx:jq x st come=cP x (cW x st come) (lY x st come 12):=rfl
 rw[hcx] at q
 generalize lY x st come 12=ch at q hbd ⊢
 have e9:=s89 _ _ e48
 have s49:=s48.trans s89
 refine d8.of (fun σ' H'=>σ'=[some (V.ref pa),some (V.ref sa),some (V.int come),some (V.int x.p),some (V.int x.m),some (V.ref pb),some (V.int ↑x.a),some (V.int x.e),some (V.ref pc),some (V.ref pd),some (V.int st.w),some (V.int (cB st)),some (V.ref sb),some (V.int st.s),some (V.int st.t),some (V.ref sc),some (V.ref pl),some (V.int (st.w+bL x st come)),some (V.int (fu x st come)),some (V.ref pn),some (V.int ch),o,none,none]/\H' pl=some (.lst ((if 0<ch then(st.cs.drop 1++[0]).set x.a ((st.cs.drop 1++[0]).getD x.a 0+ch) else st.cs.drop 1++[0]).map V.int))/\SX pl H H'/\SX pl H9 H') ?_ ?_
 rotate_left 1
 ·intro N sO
  walk_at "rd"
  have ha:=hx.a
  by_cases c1:0<ch
  ·rw[aL (gC c1)]
   rw[aL c1] at sO
   refine Ix.lst e9 (v:=.int ((st.cs.drop 1++[0]).getD x.a 0)) (bx (by rw[gM,fM (by omega),fJ,fM (by omega)]; rfl)) ⟨_,_,rfl,rfl,pl,_,_,x.a,rfl,rfl,e9,uL (by rw[bR]; omega),?_⟩
   refine sO _ _ ⟨rfl,?_,(SX.of s49).trans SX.upd,SX.upd⟩
   rw[az,List.map_set]
  ·rw[bB (by simpa using c1)]
   rw[bB c1] at sO
   exact sO _ _ ⟨rfl,e9,SX.of s49,SX.refl _ _⟩
 rintro σ' ux ⟨rfl,e10,x10,y10⟩
 obtain⟨hm,hm0,hmS,hmE⟩:∃hm:Nat->List Int×Int,hm 0=(if 0<ch then(st.cs.drop 1++[0]).set x.a ((st.cs.drop 1++[0]).getD x.a 0+ch) else st.cs.drop 1++[0],0)/\(¬0<ch->∀i:Nat,hm i=aY (st.cs.drop 1++[0]) i)/\(0<ch->∀i,hm i=hm 0):=by
  by_cases c1:0<ch
  ·exact⟨fun _=>((st.cs.drop 1++[0]).set x.a ((st.cs.drop 1++[0]).getD x.a 0+ch),0),by rw[aL c1],fun z=>absurd c1 z,fun _ _=>rfl⟩
  ·exact⟨fun i=>aY (st.cs.drop 1++[0]) i,by rw[bB c1]; exact tX _ hmn,fun _ _=>rfl,fun z=>absurd z c1⟩
 obtain⟨n,hn,afU⟩:∃n:Nat,(if 0-ch>0 then 0-ch else 0)=(n:Int)/\n<=24:=⟨(if 0-ch>0 then 0-ch else 0).toNat,by split <;> omega,by have:=hs.sm; split <;> omega⟩
 have acL:ux pn=some (.lst (V.ref q6::us)):=y10.get npl (s89 _ _ e8)
 have adu:ak (hid pl ux) ((cg x st come).map jg) (V.ref q6::us):=(ak.sH e9 _ _ (uT _) (aN.mono s89)).mono y10
 walk_at "rd"
 obtain⟨Pv,hPv⟩:∃Pv:Nat->St->Hp->Prop,∀i σ H',Pv i σ H'↔(∃(o1 o2:Option V),σ=[some (V.ref pa),some (V.ref sa),some (V.int come),some (V.int x.p),some (V.int x.m),some (V.ref pb),some (V.int ↑x.a),some (V.int x.e),some (V.ref pc),some (V.ref pd),some (V.int st.w),some (V.int (cB st-(hm i).2)),some (V.ref sb),some (V.int st.s),some (V.int st.t),some (V.ref sc),some (V.ref pl),some (V.int (st.w+bL x st come)),some (V.int (fu x st come)),some (V.ref pn),some (V.int ch),o,o1,o2]/\H' pl=some (.lst ((hm i).1.map V.int))/\SX pl ux H'):=⟨_,fun _ _ _=>oV⟩
 refine Gb (n:=n) (fun R hR=>?_) (by omega) Pv ((hPv _ _ _).mpr ⟨_,_,by rw[hm0,Em],by rw[hm0]; exact e10,SX.refl _ _⟩) ?_ ?_
 ·walk_at "rd"
  rw[hn]; exact hR
 ·intro i σ xQ hi X_
  obtain⟨o1,o2,rfl,Kw,y11⟩:=(hPv _ _ _).mp X_
  have hneg:¬0<ch:=fun z=>by rw[bB (by omega)] at hn; omega
  rw[hmS hneg i] at Kw ⊢
  obtain⟨nA,nB⟩:=Ab (st.cs.drop 1++[0]) (i:Int)
  have hgl:(aY (st.cs.drop 1++[0]) (i:Int)).1.length=5:=by rw[lO]; exact YL
  rw[YL] at nA nB
  have ei1:((i+1:Nat):Int)=(i:Int)+1:=by omega
  generalize hG:aY (st.cs.drop 1++[0]) (i:Int)=G at Kw nA nB hgl ⊢
  obtain⟨L,m⟩:=G
  simp only at Kw nA nB hgl ⊢
  walk_at "rd"
  refine Vi (n:=5) (fun j=>decide (0<L.getD j 0)) (fun j=>V.int (0+(j:Nat))) (fun R hR=>hR) (by decide) (fun j H' hj s' R hR=>?_) (fun j H' hj hk s' R hR=>?_) (fun acc Ww s12 aaF h12=>?_)
  ·show O9 _ [some _,some (.ref pl)] H' R
   walk_at "rd"
   rw[zq]
   refine Ix.lst (s' _ _ Kw) (v:=.int (L.getD j 0)) (bx (by rw[gM,fM (by omega),fJ,fM (by omega)]; rfl)) ?_
   walk_at "rd"
   exact hR
  ·show rF 0 [some _,some (.ref pl)] H' R
   walk_at "rd"
   exact hR
  ·have Oi:=s12 _ _ Kw
   have eI:((List.range 5).filter fun j=>decide (0<L.getD j 0)).map (fun j=>V.int (0+(j:Nat)))=(((List.range 5).filter fun j=>decide (0<L.getD j 0)).map (fun j=>(0:Int)+(j:Nat))).map V.int:=by rw[List.map_map]; rfl
   have z:=n_ (((List.range 5).filter fun j=>decide (0<L.getD j 0)).map (fun j=>(0:Int)+(j:Nat)))
   refine⟨(by decide),fun Xu Ou Wl nP Kv=>⟨.list ((((List.range 5).filter fun j=>decide (0<L.getD j 0)).map (fun j=>(0:Int)+(j:Nat))).map .int),.list [],At.lst (by rw[<- eI]; exact nP _ _ h12) (bH _),At.lst Kv ak.nil,z.1,rfl,z.2.1,rfl,z.2.2,?_⟩⟩
   have ZW:=s12.trans nP
   have Yi:=nP _ _ Oi
   have h13:=nP _ _ h12
   rcases J_ (fun j=>decide (0<L.getD j 0)) (fun j=>V.int (0+(j:Nat))) 5 with⟨l1,l2⟩ | ⟨j,ini,j5,hj,hjk,hl⟩
   ·have en:((List.range 5).filter fun j=>decide (0<L.getD j 0)).map (fun j=>(0:Int)+(j:Nat))=[]:=by
     have:=List.map_eq_nil_iff.mp l1
     rw[this]; rfl
    rw[en]
    have eq:PyData.eqv (.list (([]:List Int).map .int)) (.list [])=true:=rfl
    rw[eq,bB (by decide)]
    have hB:=nB fun k hk=>by have:=l2 k hk; simpa using this
    rw[show cB st-m-1=cB st-(m+1) by omega]
    refine(hPv _ _ _).mpr ?_
    rw[hmS hneg (i+1),ei1,hB]
    exact⟨_,_,rfl,Yi,y11.trans (SX.of ZW)⟩
   ·have hA:=nA j j5 (by simpa using hj) fun k k1 k2=>by have:=hjk k k1 k2; simpa using this
    have eq:PyData.eqv (.list ((((List.range 5).filter fun j=>decide (0<L.getD j 0)).map (fun j=>(0:Int)+(j:Nat))).map .int)) (.list [])=false:=by
     cases hz:((List.range 5).filter fun j=>decide (0<L.getD j 0)).map (fun j=>(0:Int)+(j:Nat)) with
     | nil=>
      rw[hz] at eI
      rw[eI] at hl
      simp at hl
     | cons a b=>rfl
    rw[eq,aL (by decide)]
    rw[hl] at h13
    rw[zq] at h13
    refine Ix.lst h13 (v:=.int (j:Nat)) (Gz _ _) (Ix.lst Yi (v:=.int (L.getD j 0)) (bx (by rw[gM,fM (by omega),fJ,fM (by omega)]; rfl)) ⟨_,_,rfl,rfl,Ix.lst h13 (v:=.int (j:Nat)) (Gz _ _) ⟨pl,_,_,j,rfl,rfl,Yi,uL (by rw[bR]; omega),?_⟩⟩)
    refine(hPv _ _ _).mpr ?_
    rw[hmS hneg (i+1),ei1,hA]
    refine⟨_,_,rfl,?_,(y11.trans (SX.of ZW)).trans SX.upd⟩
    rw[az,List.map_set]
 intro σ xQ X_
 obtain⟨o1,o2,rfl,Kw,y11⟩:=(hPv _ _ _).mp X_
 dsimp only
 have hfin:(cP x (cW x st come) ch).r=cB st-(hm n).2/\(cP x (cW x st come) ch).cs=(hm n).1/\(cP x (cW x st come) ch).t=(if ch≠0 then(if ch<0 then x.d else x.u) else(if st.t-1>0 then st.t-1 else 0)) /\
   (cP x (cW x st come) ch).w=st.w+bL x st come-fu x st come/\(cP x (cW x st come) ch).s=lD x.e st.s/\(cP x (cW x st come) ch).us=(cg x st come).take 3:=by
  have hW:=uP (x:=x) (st:=cW x st come) (ch:=ch) hx.a hrn YL hmn (by show 0<=cB st+(st.cs.drop 1++[0]).sum+ch; rw[iC hc5]; exact hbd)
  refine⟨?_,?_,?_,hW.w,hW.s,hW.u⟩
  ·unfold cP
   by_cases c0:ch=0
   ·rw[aL c0]
    rw[c0] at hn
    have:n=0:=by simpa using hn.symm
    rw[this,hm0,Em]; rfl
   ·rw[bB c0]
    by_cases c1:0<ch
    ·rw[aL c1,hmE c1 n,hm0,Em]; rfl
    ·rw[bB c1,hmS c1 n]
     rw[aL (by omega)] at hn
     rw[show -ch=(n:Int) by omega]; rfl
  ·unfold cP
   by_cases c0:ch=0
   ·rw[aL c0]
    have hn':=hn
    rw[c0] at hn'
    have:n=0:=by simpa using hn'.symm
    rw[this,hm0,bB (by omega)]; rfl
   ·rw[bB c0]
    by_cases c1:0<ch
    ·rw[aL c1,hmE c1 n,hm0,aL c1]
     exact(W_ (l:=st.cs.drop 1++[0]) (by rw[YL]; have:=hx.a; omega)).symm
    ·rw[bB c1,hmS c1 n]
     rw[aL (by omega)] at hn
     rw[show -ch=(n:Int) by omega]; rfl
  ·rw[hW.t]
   show(if ch=0 then(if 0>st.t-1 then 0 else st.t-1) else if 0<ch then x.u else x.d)=_
   repeat' split <;> try omega
 obtain⟨k1,k2,k3,k4,k5,k6⟩:=hfin
 generalize hnx:cP x (cW x st come) ch=nx at q k1 k2 k3 k4 k5 k6
 rw[<- k1]
 rw[<- k2] at Kw
 have x11:aF H xQ:=SX.same fl' (x10.trans y11)
 refine d8.of (fun σ' H'=>xQ=H'/\σ'=[some (V.ref pa),some (V.ref sa),some (V.int come),some (V.int x.p),some (V.int x.m),some (V.ref pb),some (V.int ↑x.a),some (V.int x.e),some (V.ref pc),some (V.ref pd),some (V.int st.w),some (V.int nx.r),some (V.ref sb),some (V.int st.s),some (V.int nx.t),some (V.ref sc),some (V.ref pl),some (V.int (st.w+bL x st come)),some (V.int (fu x st come)),some (V.ref pn),some (V.int ch),o,o1,o2]) ?_ ?_
 rotate_left 1
 ·intro N sO
  walk_at "rd"
  by_cases c1:ch=0
  ·rw[bB (by simpa using c1)]
   rw[bB (show ¬ch≠0 from fun z=>z c1)] at k3
   rw[k3] at sO
   exact sO _ _ ⟨rfl,rfl⟩
  ·rw[aL (by simpa using c1)]
   rw[aL c1] at k3
   by_cases c2:ch<0
   ·rw[aL (gC c2)]
    rw[aL c2] at k3
    rw[k3] at sO
    exact Ix.tup (x11 _ _ p3) (v:=.int x.d) rfl (sO _ _ ⟨rfl,rfl⟩)
   ·rw[bB (by simpa using c2)]
    rw[bB c2] at k3
    rw[k3] at sO
    exact Ix.tup (x11 _ _ p3) (v:=.int x.u) rfl (sO _ _ ⟨rfl,rfl⟩)
 rintro σ' H' ⟨rfl,rfl⟩
 refine d8.of (fun σ' H'=>xQ=H'/\σ'=[some (V.ref pa),some (V.ref sa),some (V.int come),some (V.int x.p),some (V.int x.m),some (V.ref pb),some (V.int ↑x.a),some (V.int x.e),some (V.ref pc),some (V.ref pd),some (V.int st.w),some (V.int nx.r),some (V.ref sb),some (V.int nx.s),some (V.int nx.t),some (V.ref sc),some (V.ref pl),some (V.int (st.w+bL x st come)),some (V.int (fu x st come)),some (V.ref pn),some (V.int ch),o,o1,o2]) ?_ ?_
 rotate_left 1
 ·intro N sO
  walk_at "rd"
  unfold lD at k5
  by_cases c1:x.e<=st.s+1
  ·rw[aL (gC c1)]
   rw[bB (by omega)] at k5
   rw[k5] at sO
   exact sO _ _ ⟨rfl,rfl⟩
  ·rw[bB (by simpa using c1)]
   rw[aL (by omega)] at k5
   rw[k5] at sO
   exact sO _ _ ⟨rfl,rfl⟩
 rintro σ' H' ⟨rfl,rfl⟩
 walk_at "rd"
 have acK:xQ pn=some (.lst (V.ref q6::us)):=y11.get npl acL
 have adt:ak xQ ((cg x st come).map jg) (V.ref q6::us):=(adu.mono y11).mono cX
 refine⟨pl,_,rfl,Kw,fun l12 f12=>?_⟩
 have s12:=aK f12 (HO.tup (nx.cs.map V.int))
 have Oi:upd xQ l12 (HO.tup (nx.cs.map V.int)) l12=some (.tup (nx.cs.map V.int)):=az
 generalize upd xQ l12 (HO.tup (nx.cs.map V.int))=Ww at s12 Oi ⊢
 refine⟨pn,_,rfl,dX.of (s12 _ _ acK),fun Xu Wl=>?_⟩
 rw[nu (by decide)]
 have nP:=aK Wl (HO.lst ((V.ref q6::us).take (Int.toNat 3)))
 have Kv:upd Ww Xu (HO.lst ((V.ref q6::us).take (Int.toNat 3))) Xu=some (.lst ((V.ref q6::us).take (Int.toNat 3))):=az
 generalize upd Ww Xu (HO.lst ((V.ref q6::us).take (Int.toNat 3)))=Ou at nP Kv ⊢
 refine⟨Xu,_,rfl,Kv,fun l14 YM=>?_⟩
 have Jw:=aK YM (HO.tup ((V.ref q6::us).take (Int.toNat 3)))
 have Oh:upd Ou l14 (HO.tup ((V.ref q6::us).take (Int.toNat 3))) l14=some (.tup ((V.ref q6::us).take (Int.toNat 3))):=az
 generalize upd Ou l14 (HO.tup ((V.ref q6::us).take (Int.toNat 3)))=YB at Jw Oh ⊢
 refine⟨(by decide),fun Od Vt f15 Sg Og=>⟨(by decide),fun p16 Wv f16 Ea Ve=>?_⟩⟩
 have V1:aF xQ Wv:=s12.trans (nP.trans (Jw.trans (Sg.trans Ea)))
 have adl:Wv p16=some (.tup [.ref Od,.int (come-bL x st come)]):=by
  rw[Ve,show st.w+come-(st.w+bL x st come)=come-bL x st come by omega]
 refine q p16 (.ref Od) Wv (x11.trans V1) ?_ adl
 have aU:ak Wv (nx.us.map jg) ((V.ref q6::us).take (Int.toNat 3)):=by
  rw[k6,vO]
  exact(adt.take 3).mono V1
 rw[<- k4] at Og
 exact At.tup (Ea _ _ Og) (ak.cons (At.int _) (ak.cons (At.int _) (ak.cons (At.tup ((nP.trans (Jw.trans (Sg.trans Ea))) _ _ Oi) (bH _)) (ak.cons (At.int _) (ak.cons (At.int _) (ak.cons (At.tup ((Sg.trans Ea) _ _ Oh) aU) ak.nil))))))
section
variable {x:cO} {c:Cv} {st:cJ}
theorem Q_ (p:Nat):(dY (aJ x c st p) 0).fr=none:=by
 obtain⟨r,hr⟩:=jb (x:=x) (cv:=c) (st:=st) 0 p
 rw[Bu] at hr
 rw[hr,iy (by simp[aJ])]
 rfl
theorem Fi {es r:List En} (hq:yK es):∀f p,p<es.length->bz (es++r) f p=bz es f p
 | 0,_,_=>rfl
 | f+1,p,hp=>by
  unfold bz
  rw[iy hp]
  cases e:(dY es p).fr with
  | none=>rfl
  | some qc=>
   obtain⟨q,cc⟩:=qc
   show bz (es++r) f q++[cc]=bz es f q++[cc]
   rw[Fi hq f q (by have:=hq p q cc hp e; omega)]
theorem Xr {n p cc:Nat} (hn:(aJ x c st n).length=n) (hp:p<(aJ x c st p).length) (hc:cc<=rB c (dY (aJ x c st p) p)):∃r,aJ x c st n=cA x c st p cc++r:=by
 have hpn:p<n:=by have:=ju hn p; omega
 obtain⟨r1,h1⟩:=nZ (x:=x) (c:=c) (st:=st) p cc (rB c (dY (aJ x c st p) p)-cc)
 rw[show cc+(rB c (dY (aJ x c st p) p)-cc)=rB c (dY (aJ x c st p) p) by omega,<- qJ hp] at h1
 obtain⟨r2,h2⟩:=jb (x:=x) (cv:=c) (st:=st) (p+1) (n-(p+1))
 rw[show p+1+(n-(p+1))=n by omega,h1,vL] at h2
 exact⟨_,h2⟩
theorem qX {b:Option Int} {lim:Int} {n p cc:Nat} (hn:(aJ x c st n).length=n) (Bk:jz x c st b lim p cc):jZ x c st p cc=bz (aJ x c st n) n p++[(cc:Int)]:=by
 unfold jZ
 obtain⟨r,hr⟩:=Xr hn Bk.hp (jB Bk.hc)
 have hf:=BW (c:=cc) Bk.hp
 have hpl:p<(cA x c st p cc).length:=by have:=qC (x:=x) (cv:=c) (st:=st) (p:=p) (c:=cc); have:=Bk.hp; omega
 have hl:(cA x c st p cc).length<=n:=by
  have:=gW List.length hr
  rw[hn,fP] at this
  omega
 rw[hr,Fi hf _ _ hpl,nY hf p _ n hpl hpl (by omega)]
end
theorem M9 {ws:List Int} {us vs:List (List Int)} (h:∀i,i<3->cu ws i (us.getD i [])=cu ws i (vs.getD i [])):dB ws us=dB ws vs:=by
 unfold dB
 refine List.map_congr_left fun i hi=>?_
 rw[rR] at hi
 exact h i hi
theorem wI {ws:List Int} {us vs:List (List Int)} (h:dB ws us=dB ws vs) {i j:Nat} (hi:i<3) (hj:j<3) (hg:ws.getD j 0>(i:Int)):(us.getD i []).getD j 0=(vs.getD i []).getD j 0:=by
 have h1:cu ws i (us.getD i [])=cu ws i (vs.getD i []):=by
  have:=gW (fun l=>l.getD i []) h
  match i,hi,this with
  | 0,_,z=>exact z
  | 1,_,z=>exact z
  | 2,_,z=>exact z
 have h2:(if ws.getD j 0>(i:Int) then(us.getD i []).getD j 0 else 0)=(if ws.getD j 0>(i:Int) then(vs.getD i []).getD j 0 else 0):=by
  have:=gW (fun l=>l.getD j 0) h1
  match j,hj,this with
  | 0,_,z=>exact z
  | 1,_,z=>exact z
  | 2,_,z=>exact z
 rw[aL hg,aL hg] at h2
 exact h2
theorem QW {x:cO} {w:Str} (hw:w∈(["come","done","wait"]:List Str)):(fY x).getD (c7 w) 0=fG x.dZ.flatten w:=by
 simp only[b7,jQ,or_false] at hw
 rcases hw with rfl | rfl | rfl <;> rfl
theorem Lh {x:cO} {us vs:List (List Int)} {hd:List Int} {r:fX} (hr:r∈x.dZ.flatten) (hR:oW r) (lu:us.length=3) (lv:vs.length=3) (h:dB (fY x) us=dB (fY x) vs):j7 r.w r.s (hd::us)=j7 r.w r.s (hd::vs):=by
 have hs:=hR.s
 have hn:(fY x).getD (c7 r.w) 0≥(r.s:Int)-1:=by
  rw[QW hR.w]
  exact(qZ x.dZ.flatten r.w).le r hr rfl
 have Wi:=rC r.w
 have g:∀i,i<3->i+1<r.s->(us.getD i []).getD (c7 r.w) 0=(vs.getD i []).getD (c7 r.w) 0:=fun i hi hl=>wI h hi Wi (by omega)
 obtain⟨u0,u1,u2,rfl⟩:=M7 lu
 obtain⟨v0,v1,v2,rfl⟩:=M7 lv
 unfold j7
 generalize c7 r.w=ix at *
 have:r.s=1\/r.s=2\/r.s=3\/r.s=4:=by omega
 rcases this with e | e | e | e
 ·rw[e]; rfl
 ·have g0:u0.getD ix 0=v0.getD ix 0:=g 0 (by omega) (by omega)
  rw[e]
  show[hd.getD ix 0,u0.getD ix 0].sum=[hd.getD ix 0,v0.getD ix 0].sum
  rw[g0]
 ·have g0:u0.getD ix 0=v0.getD ix 0:=g 0 (by omega) (by omega)
  have g1:u1.getD ix 0=v1.getD ix 0:=g 1 (by omega) (by omega)
  rw[e]
  show[hd.getD ix 0,u0.getD ix 0,u1.getD ix 0].sum=[hd.getD ix 0,v0.getD ix 0,v1.getD ix 0].sum
  rw[g0,g1]
 ·have g0:u0.getD ix 0=v0.getD ix 0:=g 0 (by omega) (by omega)
  have g1:u1.getD ix 0=v1.getD ix 0:=g 1 (by omega) (by omega)
  have g2:u2.getD ix 0=v2.getD ix 0:=g 2 (by omega) (by omega)
  rw[e]
  show[hd.getD ix 0,u0.getD ix 0,u1.getD ix 0,u2.getD ix 0].sum=[hd.getD ix 0,v0.getD ix 0,v1.getD ix 0,v2.getD ix 0].sum
  rw[g0,g1,g2]
theorem tO {h:Int} {t t':List (List Int)}:∀{rs:List fX},(∀r∈rs,j7 r.w r.s t=j7 r.w r.s t')->dI h t rs=dI h t' rs
 | [],_=>rfl
 | r::rs,hh=>by
  have ih:=tO (h:=h) (rs:=rs) fun z hz=>hh z (iM _ hz)
  have e:says r h t=says r h t':=by
   unfold says
   rw[hh r jl]
  show(match says r h t with | some i=>i | none=>dI h t rs)=(match says r h t' with | some i=>i | none=>dI h t' rs)
  rw[e,ih]
theorem GR {x:cO} {h:Int} {us vs:List (List Int)} {hd:List Int} (hN:Dr x) (lu:us.length=3) (lv:vs.length=3) (hl:dB (fY x) us=dB (fY x) vs):gB x.dZ x.lo x.hi h (hd::us)=gB x.dZ x.lo x.hi h (hd::vs):=by
 have e:x.dZ.map (dI h (hd::us))=x.dZ.map (dI h (hd::vs)):=List.map_congr_left fun rs hrs=>tO fun r hr=>
  have hm:r∈x.dZ.flatten:=List.mem_flatten.mpr ⟨rs,hrs,hr⟩
  Lh hm (hN.r r hm) lu lv hl
 unfold gB
 rw[e]
theorem M8 {x:cO} {w r s t:Int} {cs:List Int} {us vs:List (List Int)} (h:dB (fY x) us=dB (fY x) vs) (ch:Int):fj x (cP x ⟨w,r,cs,s,t,us⟩ ch)=fj x (cP x ⟨w,r,cs,s,t,vs⟩ ch):=by
 unfold cP
 by_cases c1:ch=0
 ·rw[aL c1,aL c1]
  show cJ.mk _ _ _ _ _ _=cJ.mk _ _ _ _ _ _
  rw[h]
 ·rw[bB c1,bB c1]
  by_cases c2:0<ch
  ·rw[aL c2,aL c2]
   show cJ.mk _ _ _ _ _ _=cJ.mk _ _ _ _ _ _
   rw[h]
  ·rw[bB c2,bB c2]
   show cJ.mk _ _ _ _ _ _=cJ.mk _ _ _ _ _ _
   rw[h]
theorem RQ {x:cO} {A B:cJ} {c fr:Int} (k1:∀hh,gB x.dZ x.lo x.hi hh (cg x A c)=gB x.dZ x.lo x.hi hh (cg x B c)) (k2:fV x.e A.s A.t=fV x.e B.s B.t) (k3:cB A=cB B) (k4:A.cs=B.cs):lY x A c fr=lY x B c fr:=by
 unfold lY qO
 rw[k2,k3,k4,k1]
theorem F_ {x:cO} {a b:cJ} (hN:Dr x) (ha:eV a) (hb:eV b) (h:fj x a=fj x b) (c fr:Int) :
  bL x a c=bL x b c/\fu x a c=fu x b c/\lY x a c fr=lY x b c fr/\fj x (cP x (cW x a c) (lY x a c fr))=fj x (cP x (cW x b c) (lY x b c fr)):=by
 obtain⟨w,r,cs,s,t,us⟩:=a
 obtain⟨w',r',cs',s',t',us'⟩:=b
 have e1:w=w':=gW cJ.w h
 have e2:r=r':=gW cJ.r h
 have e3:cs=cs':=gW cJ.cs h
 have e4:(if x.e-1<s then x.e-1 else s)=(if x.e-1<s' then x.e-1 else s'):=gW cJ.s h
 have e5:t=t':=gW cJ.t h
 have e6:dB (fY x) us=dB (fY x) us':=gW cJ.us h
 subst e1 e2 e3 e5
 have f1:bL x ⟨w,r,cs,s,t,us⟩ c=bL x ⟨w,r,cs,s',t,us'⟩ c:=rfl
 have f2:fu x ⟨w,r,cs,s,t,us⟩ c=fu x ⟨w,r,cs,s',t,us'⟩ c:=rfl
 have f3:lD x.e s=lD x.e s':=by unfold lD; split at e4 <;> split at e4 <;> split <;> split <;> omega
 have f4:fV x.e s t=fV x.e s' t:=by
  unfold fV
  have:(s+1<x.e)↔(s'+1<x.e):=by split at e4 <;> split at e4 <;> omega
  by_cases z:s+1<x.e
  ·rw[aL z,aL (this.mp z)]
  ·rw[bB z,bB (fun y=>z (this.mpr y))]
 have f5:lY x ⟨w,r,cs,s,t,us⟩ c fr=lY x ⟨w,r,cs,s',t,us'⟩ c fr:=by
  refine RQ (fun hh=>?_) f4 rfl rfl
  unfold cg
  rw[f1,f2]
  exact GR hN ha.u hb.u e6
 refine⟨f1,f2,f5,?_⟩
 rw[f5]
 generalize lY x ⟨w,r,cs,s',t,us'⟩ c fr=ch
 obtain⟨u0,u1,u2,rfl⟩:=M7 ha.u
 obtain⟨v0,v1,v2,rfl⟩:=M7 hb.u
 simp only[cW,cB,cg,f1,f2,f3,List.take_succ_cons,List.take_zero]
 refine M8 (M9 fun i hi=>?_) ch
 match i,hi with
 | 0,_=>rfl
 | 1,_=>
  refine pI fun j hj hg=>?_
  exact wI e6 (i:=0) (by omega) hj (by have:((1:Nat):Int)=1:=rfl; omega)
 | 2,_=>
  refine pI fun j hj hg=>?_
  exact wI e6 (i:=1) (by omega) hj (by have:((2:Nat):Int)=2:=rfl; omega)
section
variable {x:cO} {c:Cv} {st:cJ}
theorem nU {n fuel:Nat}:bz (aJ x c st n) fuel 0=[]:=by
 cases fuel with
 | zero=>rfl
 | succ f=>unfold bz; rw[Q_]
theorem nW {n p q:Nat} {cc:Int} (hn:(aJ x c st n).length=n) (hp:p<n) (e:(dY (aJ x c st n) p).fr=some (q,cc)):q<p/\bz (aJ x c st n) n p=bz (aJ x c st n) n q++[cc]:=by
 have hq:q<p:=lM n p q cc (by omega) e
 refine⟨hq,?_⟩
 obtain⟨m,rfl⟩:∃m,n=m+1:=⟨n-1,by omega⟩
 conv=>lhs; unfold bz
 rw[e]
 show bz (aJ x c st (m+1)) m q++[cc]=_
 rw[nY (lM (m+1)) q m (m+1) (by omega) (by omega) (by omega)]
end
section
variable {x:cO} {c:Cv} {st:cJ}
theorem XS {n p:Nat} (hn:(aJ x c st n).length=n) (hp:p<n):p<(aJ x c st p).length/\dY (aJ x c st n) p=dY (aJ x c st p) p:=by
 have h1:p<(aJ x c st p).length:=by
  by_cases z:p<(aJ x c st p).length
  ·exact z
  ·have e1:∀d,aJ x c st (p+d)=aJ x c st p:=fun d=>by
    induction d with
    | zero=>rfl
    | succ d ih=>rw[<- Ef,eZ,ih,bB (by omega)]
   have:=e1 (n-p)
   rw[show p+(n-p)=n by omega] at this
   rw[this] at hn
   omega
 refine⟨h1,?_⟩
 obtain⟨r,hr⟩:=jb (x:=x) (cv:=c) (st:=st) p (n-p)
 rw[show p+(n-p)=n by omega] at hr
 rw[hr,iy h1]
theorem JW (p:Nat):∀k i,i<(cA x c st p k).length->i<(aJ x c st p).length\/∃cc:Nat,cc<k/\dY (cA x c st p k) i=sG x c (dY (aJ x c st p) p) p cc
 | 0,i,h=>.inl h
 | k+1,i,h=>by
  by_cases hk:i<(cA x c st p k).length
  ·rcases JW p k i hk with z | ⟨cc,h1,h2⟩
   ·exact .inl z
   ·refine .inr ⟨cc,by omega,?_⟩
    obtain⟨r,hr⟩:=nZ (x:=x) (c:=c) (st:=st) p k 1
    rw[hr,iy hk]
    exact h2
  ·rw[kW] at h
   by_cases hin:(sG x c (dY (aJ x c st p) p) p k).key∈(cA x c st p k).map En.key
   ·rw[aL hin] at h; exact absurd h hk
   ·rw[bB hin,fP] at h
    have h:i<(cA x c st p k).length+1:=h
    have hi:i=(cA x c st p k).length:=by omega
    refine .inr ⟨k,by omega,?_⟩
    rw[kW,bB hin]
    unfold dY
    rw[fJ,vM (by omega),hi,vI]
    rfl
theorem oh:∀p i,1<=i->i<(aJ x c st p).length->∃q cc:Nat,q<(aJ x c st q).length/\cc<rB c (dY (aJ x c st q) q)/\dY (aJ x c st p) i=sG x c (dY (aJ x c st q) q) q cc
 | 0,i,h1,h=>by simp[aJ] at h; omega
 | p+1,i,h1,h=>by
  by_cases hp:p<(aJ x c st p).length
  ·have e:=qJ hp
   rw[e] at h ⊢
   rcases JW p _ i h with z | ⟨cc,g1,g2⟩
   ·obtain⟨q,cc,k1,k2,k3⟩:=oh p i h1 z
    refine⟨q,cc,k1,k2,?_⟩
    obtain⟨r,hr⟩:=nZ (x:=x) (c:=c) (st:=st) p 0 (rB c (dY (aJ x c st p) p))
    rw[Bu] at hr
    have e0:cA x c st p 0=aJ x c st p:=rfl
    rw[hr,e0,iy z]
    exact k3
   ·exact⟨p,cc,hp,g1,g2⟩
  ·have e:aJ x c st (p+1)=aJ x c st p:=by rw[eZ,bB hp]
   rw[e] at h ⊢
   exact oh p i h1 h
theorem oA {n p:Nat} (hn:(aJ x c st n).length=n) (hp:p<(aJ x c st p).length):p<n/\dY (aJ x c st n) p=dY (aJ x c st p) p:=by
 have hpn:p<n:=by have:=ju hn p; omega
 refine⟨hpn,?_⟩
 obtain⟨r,hr⟩:=jb (x:=x) (cv:=c) (st:=st) p (n-p)
 rw[show p+(n-p)=n by omega] at hr
 rw[hr,iy hp]
theorem Mj {n:Nat} (hx:iU x) (hN:Dr x) (hs:eV st) (hn:(aJ x c st n).length=n):∀p,p<n->fj x (cN x st (bz (aJ x c st n) n p))=(dY (aJ x c st n) p).st:=by
 intro p
 induction p using Nat.strongRecOn with
 | _ p ih=>
  intro hp
  by_cases p0:p=0
  ·subst p0
   rw[nU]
   obtain⟨r,hr⟩:=jb (x:=x) (cv:=c) (st:=st) 0 n
   rw[Bu] at hr
   rw[hr,iy (by simp[aJ])]
   rfl
  ·obtain⟨q,cc,k1,k2,k3⟩:=oh (x:=x) (c:=c) (st:=st) n p (by omega) (by omega)
   obtain⟨b1,b2⟩:=nW hn hp (by rw[k3]; rfl)
   obtain⟨qn,qe⟩:=oA hn k1
   rw[b2,eE,k3]
   have g:=F_ hN (nJ hx hs) (uH (nJ hx hs)) (zX x (cN x st (bz (aJ x c st n) n q))).symm cc 12
   show fj x (jq x _ _)=fj x (jq x (dY (aJ x c st q) q).st cc)
   rw[<- qe,<- ih q b1 (by omega)]
   exact g.2.2.2
theorem zW {n p cc:Nat} (hx:iU x) (hN:Dr x) (hs:eV st) (hn:(aJ x c st n).length=n) (hp:p<n) :
  (cN x st (bz (aJ x c st n) n p++[(cc:Int)])).w=(N6 x (dY (aJ x c st n) p) cc).w/\(cc:Int)-bL x (cN x st (bz (aJ x c st n) n p)) cc=Gx x (dY (aJ x c st n) p) cc:=by
 have e:=Mj (c:=c) hx hN hs hn p hp
 have g:=F_ hN (nJ hx hs) (uH (nJ hx hs)) (zX x (cN x st (bz (aJ x c st n) n p))).symm cc 12
 refine⟨?_,?_⟩
 ·rw[eE]
  show _=(fj x (jq x (dY (aJ x c st n) p).st cc)).w
  rw[<- e]
  have h:=gW cJ.w g.2.2.2
  exact h
 ·show _=(cc:Int)-bL x (dY (aJ x c st n) p).st cc
  rw[<- e,<- g.1]
end
variable {bf bu:Addr}
def Hj (CM CW:Addr):Sp:=fun vs H Q E=>∃(v u cv:V) (x:cO) (st:cJ) (c:Cv),vs=[v,u,cv]/\At H (gZ x) v/\At H (lC st) u/\At H (CP c) cv/\iU x/\Dr x/\eV st/\yL c/\cF c (c.map (·.1))<=23 /\
 (∀n,fH x c st none 200 n->∀l ys H',aF H H'->H l=none->H' l=some (.lst ys)->ak H' ((aJ x c st n).map gH) ys->Q (.ref l) H') /\
 (∀H',aF H H'->E (.ref CM) none H')
theorem DX:aV ["_law_post","_law_stand","_law_curve_here"] ["_law_post","_law_stand","_law_curve_here"] (aH Bs):=(by walk_at "c")
theorem QS (F:iW K "_law_led" "_law_led" Bs f fd) (Am:Vv P w K mg base k "led" ["post","stand","curve","limit"] 300 (PN bf bu)):bQ P w K mg base (my P w) (k+1) f fd ["_law_post","_law_stand","_law_curve_here"] (Hj bf bu):=by
 refine F.YF DX (by rintro vs H Q E ⟨v,u,cv,x,st,c,rfl,_⟩; rfl) (fun cdv A outer s H vs Q E Nk hr h=>?_)
 obtain⟨v,u,cv,x,st,c,rfl,a1,a2,a3,hx,hn,hs,hv,hW,q1,q2⟩:=h
 have ND:=DX.nd
 refine⟨_,(aG (aX (pfe Am.all hr (aa (pv 0) (aa (pv 1) (aa (pv 2) (aa ao aj))))))),?_⟩
 walk_at "rd"
 refine⟨v,u,cv,x,st,c,200,rfl,a1,a2,a3,hx,hn,hs,hv,by decide,by decide,fun hW'=>absurd hW (by omega),fun _ n D l ys H' s' f' e' A'=>q1 n D l ys H' s' f' e' A',fun _ p cc M H' s' H3 s3=>q2 H3 (s3 s')⟩
def Jg (f0:Addr):Sp:=fun vs H Q _=>∃(v u cv:V) (x:cO) (st:cJ) (c:Cv),vs=[.ref f0,v,u,cv]/\At H (gZ x) v/\At H (lC st) u/\At H (CP c) cv/\iU x/\Dr x/\eV st/\yL c/\cF c (c.map (·.1))<=23 /\
 (∀n,fH x c st none 200 n->∀l ys H',aF H H'->H l=none->H' l=some (.lst ys)->ak H' ((aJ x c st n).map gH) ys->Q (.ref l) H') /\
 (∀H',aF H H'->Q .non H')
theorem zb:aV ["_law_call","_law_post","_law_stand","_law_curve_here","_law_found"] ["_law_call","_law_post","_law_stand","_law_curve_here"] (aH vy):=(by walk_at "c")
theorem Mv (F:iW K "_law_told" "_law_told" vy f fd) (B:Bi mg) (Z:ZL K mg bf bu) (qR:GK P w K mg base k "_law_led" ["_law_post","_law_stand","_law_curve_here"] (Hj bf bu)):bQ P w K mg base iH (k+1) f fd ["_law_call","_law_post","_law_stand","_law_curve_here"] (Jg qR.f):=by
 refine F.ok zb (by rintro vs H Q E ⟨v,u,cv,x,st,c,rfl,_⟩; rfl) (fun cdv A outer s H vs Q E hr h=>?_)
 obtain⟨v,u,cv,x,st,c,rfl,a1,a2,a3,hx,hn,hs,hv,hW,q1,q2⟩:=h
 have ND:=zb.nd
 refine⟨_,(aq (aW (i:=4) ND rfl (by walk_at "o") dR) (aq (T7 (K:=K) rfl (Qx (T6 (i:=4) ND (Qw qR hr 0 (aa (pv 1) (aa (pv 2) (aa (pv 3) aj)))))) (fun e=>(aG (aW (i:=4) ND rfl (by walk_at "o") dR))) Z.K6) (aG (aX (pv 4))))),?_⟩
 walk_at "rd"
 unfold VB Oz
 walk_at "rd"
 refine⟨trivial,trivial,v,u,cv,x,st,c,rfl,a1,a2,a3,hx,hn,hs,hv,hW,fun n D l ys H' s' f' e' A'=>q1 n D l ys H' s' f' e' A',fun H' sE=>⟨Z.Ik,fun a H3 s3 hX=>q2 H3 (s3 sE)⟩⟩
theorem qg:aV ["_law_entries","_law_place","_law_found"] ["_law_entries","_law_place"] (aH mR):=(by walk_at "c")
theorem Cd (F:iW K "_law_load_to" "_law_load_to" mR f fd) (B:Bi mg):bQ P w K mg base iH (k+1) f fd ["_law_entries","_law_place"] pY:=by
 refine F.ok qg (by rintro vs H Q E ⟨l,ys,es,p,rfl,_⟩; rfl) (fun cdv A outer s H vs Q E hr h=>?_)
 obtain⟨l,ys,es,p,rfl,hl,hA,hp,hn,hf,q⟩:=h
 have ND:=qg.nd
 refine⟨_,(aq (aW (i:=2) ND rfl (by walk_at "o") (b8 aj)) (aq (vQ PassesOwn.never (PW.pt (sr (a_ jH (aZ aO (aZ aO (pv 0) (pv 1) (fun _ _=>rfl)) ao (fun _ _=>rfl)) dR (aR _)) (nQ (a_ tV (pb (dW (K:=K) rfl) B.len jy (aa (pv 2) aj)) (pb (dW (K:=K) rfl) B.len jy (aa (pv 0) aj)) (aR _))))) (aq (iZ (mZ (K:=K) rfl PySem.F.plainAttrs_list PySem.F.slot_list_append PySem.F.type_list_append fZ (pv 2) (aa (aZ aO (aZ aO (pv 0) (pv 1) (fun _ _=>rfl)) ao (fun _ _=>rfl)) aj))) (aG (aW (i:=1) ND rfl (by walk_at "o") (aZ aO (aZ aO (pv 0) (pv 1) (fun _ _=>rfl)) ao (fun _ _=>rfl)))))) (aG (aX (JR (K:=K) rfl (pv 2) (cV (Ff uR ao))))))),?_⟩
 walk_at "rd"
 refine⟨fQ _,fun r H1 f1 s1 e1=>?_⟩
 have fuel:=nY hf
 obtain⟨Pv,hPv⟩:∃Pv:Nat->St->Hp->Prop,∀m σ H',Pv m σ H'↔∃(i:Nat) (acc:List Int),σ=[some (.ref l),some (.int (i:Nat)),some (.ref r)]/\i<es.length/\m=i/\bz es es.length p=bz es es.length i++acc.reverse/\acc.length+i<=p/\H' r=some (.lst (acc.map V.int))/\aF H H':=⟨_,fun _ _ _=>oV⟩
 refine⟨Pv,⟨p,(hPv _ _ _).mpr ⟨p,[],rfl,hp,rfl,by simp,by simp,e1,s1⟩⟩,?_⟩
 intro m σ H4 hh
 obtain⟨i,acc,rfl,hi,hm,hpa,hal,e4,s4⟩:=(hPv _ _ _).mp hh
 obtain⟨y,y1,y2⟩:=lV hA hi
 obtain⟨ea,v1,p2,v3,v4,rfl,g1,_,_,g4⟩:=jt y2
 have g1':=s4 _ _ g1
 walk_at "rd"
 refine Ix.lst (s4 _ _ hl) (bx y1) (Ix.tup g1' (v:=v3) rfl ⟨trivial,?_⟩)
 rcases g4 with⟨z1,rfl,rfl⟩ | ⟨q',c,z1,rfl,rfl⟩
 ·rw[bB (by decide)]
  have ep:bz es es.length i=[]:=by
   obtain⟨f',hf'⟩:∃f',es.length=f'+1:=⟨es.length-1,by omega⟩
   rw[hf']
   unfold bz
   rw[z1]
  rw[ep,Hs] at hpa
  unfold O7
  walk_at "rd"
  refine⟨trivial,r,_,rfl,dX.of e4,fun p5 f5=>?_⟩
  refine q p5 _ (aF.free s4 f5) (s4.trans (aK f5 _)) ?_
  rw[az,hpa,List.map_reverse]
 ·rw[aL (by simp)]
  have hlt:=hf i q' c hi z1
  have hyl:ys.length=es.length:=by rw[hA.length,bR]
  refine⟨r,_,rfl,.inl (dX.of e4),l,_,rfl,.inl (dX.of (s4 _ _ hl)),_,_,rfl,rfl,?_⟩
  rw[bR,hyl,aL (gC (by omega))]
  refine⟨_,fun σ' H' z=>z,.inl ⟨rfl,_,dX.of e4⟩,Ix.lst (s4 _ _ hl) (bx y1) (Ix.tup g1' (v:=.int c) rfl ⟨r,_,_,rfl,rfl,e4,by rw[bR]; exact bw (by omega),?_⟩)⟩
  have s5:aF H (upd H4 r (.lst (acc.map V.int++[V.int c]))):=s4.d7 (by exact f1)
  have e5:upd H4 r (.lst (acc.map V.int++[V.int c])) r=some (.lst ((acc++[c]).map V.int)):=by rw[az,jC]; rfl
  generalize upd H4 r (.lst (acc.map V.int++[V.int c]))=H5 at s5 e5
  have ep:bz es es.length i=bz es es.length q'++[c]:=by
   obtain⟨f',hf'⟩:∃f',es.length=f'+1:=⟨es.length-1,by omega⟩
   rw[fuel q' es.length f' (by omega) (by omega) (by omega),hf']
   conv=>lhs; unfold bz
   rw[z1]
  refine Ix.lst (s5 _ _ hl) (bx y1) (Ix.tup (s5 _ _ g1) (v:=.int (q':Nat)) rfl ⟨q',by omega,(hPv _ _ _).mpr ⟨q',acc++[c],rfl,by omega,rfl,?_,by rw[fP]; simp; omega,e5,s5⟩⟩)
  rw[hpa,ep,List.reverse_append,vL]; rfl
def VP:Sp:=fun vs H Q _=>∃(a:Addr) (n:Nat) (v u:V) (l:Addr) (ys:List V) (es:List En) (x:cO) (st:cJ),vs=[.ref a,v,u,.ref l]/\Tp H a n/\n<=100000000/\At H (gZ x) v/\At H (lC st) u/\Su x/\H l=some (.lst ys)/\ak H (es.map gH) ys/\es≠[]/\es.length<=900 /\
 ∀(b:Int) H',Tp H' a (n+2)->SX a H H'->Q (.int b) H'
theorem vf:aV ["_law_tape_here","_law_post","_law_stand","_law_entries","_law_most","_law_some"] ["_law_tape_here","_law_post","_law_stand","_law_entries"] (aH rN):=(by walk_at "c")
theorem HR (F:iW K "_law_bound" "_law_bound" rN f fd) (B:Bi mg) (bA:Ct P w K mg base k "_law_draw" ["_law_tape_here","_law_many"] oY):bQ P w K mg base iH (k+1) f fd ["_law_tape_here","_law_post","_law_stand","_law_entries"] VP:=by
 refine F.ok vf (by rintro vs H Q E ⟨a,n,v,u,l,ys,es,x,st,rfl,_⟩; rfl) (fun cdv A outer s H vs Q E hr h=>?_)
 obtain⟨a,n,v,u,l,ys,es,x,st,rfl,tp,hn,a1,a2,hx,hl,hA,hne,hel,q⟩:=h
 have ND:=vf.nd
 refine⟨_,(aq (aW (i:=4) ND rfl (by walk_at "o") (pb (Ak rfl) B.max iT (aa (iw (N':=["_law_entry"]) (js:=[]) rfl (mY (K:=K) rfl (pv 3)) uO.mk0 rfl (by decide) rfl (fun fp s' H'=>(aZ aO (aZ aO (pv 0) ao (fun _ _=>rfl)) ao (fun _ _=>rfl)))) aj))) (aq (aW (i:=5) ND rfl (by walk_at "o") (b8 (aa (pv 4) (aa (pb (e_ rfl) B.max iT (aa ao (aa (aM du (pv 4) ao) aj))) (aa (aM bD (pv 4) ao) (aa (aZ aO (pv 2) ao (fun _ _=>rfl)) (aa ao (aa (pf bA hr (aa (pv 0) (aa (aM bD (aZ aO (pv 1) ao (fun _ _=>rfl)) ao) aj))) (aa (aM HF ao ao) aj))))))))) (aG (aX (aZ aO (pv 5) (pf bA hr (aa (pv 0) (aa ao aj))) (fun _ _=>rfl)))))),?_⟩
 walk_at "rd"
 have hyl:ys.length=es.length:=by rw[hA.length,bR]
 show gK _ _ _ _ _ _
 refine KJ (es:=(mz es).map PyData.int) (fun R hR=>by walk_at "rd"; exact hR) hl (by rw[bR,mz,bR,hyl]) (jB (bw (by rw[bR,mz,bR]; omega))) (dw.mpr fun d hd=>by obtain⟨i,_,rfl⟩:=iK.mp hd; rfl) (fun i y e H2 hi he s2 R hR=>?_) (fun acc zs H2 s2 f2 e2 A2=>?_)
 ·have hil:i<es.length:=by rw[<- hyl]; exact(iQ.mp hi).1
  obtain⟨y',y1,y2⟩:=lV hA hil
  rw[hi] at y1
  cases y1
  obtain⟨ea,v1,p2,v3,v4,rfl,g1,g2,_,_⟩:=jt y2
  obtain⟨sa,sb,sc,rfl,k1,_⟩:=eX g2
  walk_at "rd"
  refine Ix.tup (s2 _ _ g1) (v:=.ref sa) rfl (Ix.tup (s2 _ _ k1) (v:=.int (dY es i).st.w) rfl (hR _ _ (aF.refl _) ?_))
  have:e=.int (dY es i).st.w:=by
   rw[gM,mz,gM,fM hil] at he
   cases he
   unfold dY
   rw[fJ,fM hil]
   rfl
  rw[this]
  exact At.int _
 cases cI A2
 have hm:∃b r,mz es=b::r:=by
  cases e:mz es with
  | nil=>exact absurd (List.map_eq_nil_iff.mp e) hne
  | cons b r=>exact⟨b,r,rfl⟩
 obtain⟨b,r,h1⟩:=hm
 obtain⟨sa,sb,sc,rfl,k1,_⟩:=eX (a2.mono s2)
 obtain⟨pa,pb,pcc,pd,rfl,m1,_⟩:=lJ (a1.mono s2)
 refine⟨acc,b,r,rfl,by rw[e2,h1]; rfl,Ix.tup k1 (v:=.int st.w) rfl (Ix.tup m1 (v:=.int x.m) rfl ⟨_,_,rfl,rfl,?_⟩)⟩
 have hm:=hx.m
 refine gw.of (tp.same s2) (by omega) (by have:=hm.1; omega) (by have:=hm.2; omega) fun y8 H8 l8 u8 t8 s8=>⟨⟨by decide,by decide,by decide⟩,(by decide),fun pl H9 f9 s9 e9=>?_⟩
 refine gw.of (t8.same s9) (by omega) (by decide) (by decide) fun y10 ux l10 u10 W0 lB=>?_
 obtain⟨bd,hbd⟩:∃bd:Int,Dq [V.int (d9 b r),V.int (if d9 b r-1>0 then d9 b r-1 else 0),V.int (d9 b r+1),V.int st.w,V.int 0,V.int y8,V.int (10 ^ Int.toNat 12)] y10=some (.int bd):=by
  obtain⟨j,rfl⟩:=Int.eq_ofNat_of_zero_le l10
  rcases j with _ | _ | _ | _ | _ | _ | _ | n
  ·exact⟨_,rfl⟩
  ·exact⟨_,rfl⟩
  ·exact⟨_,rfl⟩
  ·exact⟨_,rfl⟩
  ·exact⟨_,rfl⟩
  ·exact⟨_,rfl⟩
  ·exact⟨_,rfl⟩
  ·omega
 refine Ix.lst (lB.get (t8.ne f9) e9) hbd (q bd ux W0 ((SX.of s2).trans (s8.trans ((SX.of s9).trans lB))))
theorem Yj {K:PySem.W.Frag} {ta:TA} {σ:St} {H:Hp} {R:VK} {c:Cv} {e:En} {w2 ca:Addr} {xs:List V} (hv:yL c) (hE:pU c e) (hl:∀R':List V->Hp->Prop,R' [.ref w2,.ref ca] H->ta σ H R') (h3:H w2=some (.tup (e.sp.map V.int))) (hc:H ca=some (.tup xs)) (hA:ak H (c.map Z8) xs)
  (fin:∀acc b r H',aF H H'->H' acc=some (.lst (V.int b::List.map V.int r))->(1+jE b r:Int)=((rB c e:Nat):Int)->R (.ref acc) H'):eG 3 [] (FT K ta) (Ga K 2 (iD (dG 0) (iD (Ga K 2 (iD (dG 1) (iD (dG 2) wW))) wW))) pX (Tf (T5 fun i j=>V.int (i+j)) (rF 0) (rF 2)) σ H R:=by
 have lxs:xs.length=c.length:=by rw[hA.length,bR]
 have ln:=hv.n
 have YK:(List.zipWith (fun p l=>p.2+l) c e.sp).length=c.length:=by rw[ye,hE.sl]; omega
 refine sV (es:=(List.zipWith (fun p l=>p.2+l) c e.sp).map PyData.int) (fun i=>[some (.int (e.sp.getD i 0)),some (.int (c.getD i (0,0)).1),some (.int (c.getD i (0,0)).2)]) (fun i=>rfl) hl h3 hc (by rw[bR,bR,YK,hE.sl]) (by rw[bR,YK,lxs]) (by rw[bR,YK]; exact jB (bw (by omega))) (qH _) (fun i y y' q H' hy hy' s' hq R hR=>?_) (fun i e' H' he s' R hR=>?_) fun acc zz H8 s8 hacc hl hAA=>?_
 ·obtain⟨hi2,rfl⟩:=ints_get hy
  obtain⟨b,rfl,hi,hb⟩:=xf hA hy'
  refine⟨q,_,rfl,cG.of hq,rfl,?_⟩
  walk_at "rd"
  refine⟨b,_,rfl,cG.of (s' _ _ hb),rfl,?_⟩
  walk_at "rd"
  exact hR
 ·obtain⟨hi,rfl⟩:=ou he
  walk_at "rd"
  refine hR _ _ (aF.refl _) ?_
  rw[YK] at hi
  rw[GP _ hi (by rw[hE.sl]; exact hi),Int.add_comm]
  exact At.int _
 cases cI hAA
 have hm0:=J2 hv hE.sl hE.nn
 obtain⟨b,r,hbr⟩:∃b r,List.zipWith (fun(p:Int×Int) (l:Int)=>p.2+l) c e.sp=b::r:=by
  cases hzz:List.zipWith (fun(p:Int×Int) (l:Int)=>p.2+l) c e.sp with
  | nil=>rw[hzz] at YK; exact absurd (L_.mp YK.symm) hv.ne
  | cons b r=>exact⟨b,r,rfl⟩
 have hmi:cF c e.sp=jE b r:=by unfold cF; rw[hbr]; rfl
 rw[hbr] at hl
 refine fin acc b r H8 s8 hl ?_
 rw[hmi] at hm0
 unfold rB
 rw[hmi]
 omega
def ZM:Sp:=fun vs H Q _=>∃(v cv:V) (l:Addr) (ys:List V) (x:cO) (st:cJ) (c:Cv) (n:Nat) (bd:Int),vs=[v,cv,.ref l,.int bd]/\At H (gZ x) v/\At H (CP c) cv/\H l=some (.lst ys)/\ak H ((aJ x c st n).map gH) ys/\fH x c st none 200 n/\iU x/\eV st/\yL c/\cF c (c.map (·.1))<=23 /\
 (fH x c st (some bd) 200 n->∀H',aF H H'->Q .non H') /\
 (∀p cc,jz x c st (some bd) 200 p cc->∀q H',aF H H'->H' q=some (.tup [.int (p:Nat),.int (cc:Nat)])->Q (.ref q) H')
theorem kj:aV ["_law_post","_law_curve_here","_law_entries","_law_bound_here","_law_place","_law_entry","_law_come","_law_behind","_law_done","_law_away","_law_change"] ["_law_post","_law_curve_here","_law_entries","_law_bound_here"] (aH iJ):=(by walk_at "c")
theorem sy (F:iW K "_law_first_break" "_law_first_break" iJ f fd) (B:Bi mg) (tu:YC P w K mg base k "beat" ["post","stand","come","free"] 12 Hk):bQ P w K mg base iH (k+1) f fd ["_law_post","_law_curve_here","_law_entries","_law_bound_here"] ZM:=by
 refine F.ok kj (by rintro vs H Q E ⟨v,cv,l,ys,x,st,c,n,bd,rfl,_⟩; rfl) (fun cdv A outer s H vs Q E hr h=>?_)
 obtain⟨v,cv,l,ys,x,st,c,n,bd,rfl,a1,a3,hl,hA,D,hx,hs,hv,hW,qD,qB⟩:=h
 have ND:=kj.nd
 refine⟨_,(aq (g8 PassesOwn.never rfl (JP (K:=K) rfl B.enumerate (aa (pv 2) aj)) (bJ (K:=K) (n:=2) rfl rfl (aC (aD (i:=4) ND rfl (by walk_at "o")) (aC (aD (i:=5) ND rfl (by walk_at "o")) bI))) (aG (g8 PassesOwn.never rfl (cY (by rfl) B.range (aa (aM bD ao (pb (Aj rfl) B.min il (aa (gD (nt:=3) (N':=["_law_one","_law_burst","_law_rate"]) (js:=[]) rfl (qy (K:=K) rfl B.zip (aa (aZ aO (pv 5) ao (fun _ _=>rfl)) (aa (pv 1) aj))) j6.of (fun fp s' H'=>(bJ (K:=K) (n:=2) rfl rfl (aC (aD (i:=0) (by show List.Nodup (["_law_one","_law_burst","_law_rate"]:List Str); decide) rfl (.inl (je rfl)) (.inr (je rfl))) (aC (bJ (K:=K) (n:=2) rfl rfl (aC (aD (i:=1) (by show List.Nodup (["_law_one","_law_burst","_law_rate"]:List Str); decide) rfl (.inl (je rfl)) (.inr (je rfl))) (aC (aD (i:=2) (by show List.Nodup (["_law_one","_law_burst","_law_rate"]:List Str); decide) rfl (.inl (je rfl)) (.inr (je rfl))) bI))) bI)))) (fun fp s' H'=>jc) (fun fp s' H'=>(aM bD (pv 0) (pv 2)))) aj))) aj)) (aD (i:=6) ND rfl (by walk_at "o")) (aq (cU (pfd tu hr (aa (pv 0) (aa (aZ aO (pv 5) ao (fun _ _=>rfl)) (aa (pv 6) aj)))) (bJ (K:=K) (n:=4) rfl rfl (aC (aD (i:=7) ND rfl (by walk_at "o")) (aC (aD (i:=8) ND rfl (by walk_at "o")) (aC (aD (i:=9) ND rfl (by walk_at "o")) (aC (aD (i:=10) ND rfl (by walk_at "o")) bI)))))) (aG (dJ (PW.pt (zP (a_ jn (aZ aO (pv 7) ao (fun _ _=>rfl)) (pv 3) (aR _)) (rZ (a_ jn (pv 9) ao (aR _))))) (aG (aX (bj (aa (pv 4) (aa (pv 6) aj))))) bT)))))) (aG (aX dR))),?_⟩
 have hnl:n<=900:=by have:=D.hl; omega
 have hlen:(aJ x c st n).length=n:=D.hn
 have hyl:ys.length=n:=by rw[hA.length,bR,hlen]
 obtain⟨ca,xs,rfl,hc,hcA⟩:=bC a3
 walk_at "rd"
 rw[yP]
 walk_at "rd"
 obtain⟨Pv,hPv⟩:∃Pv:Nat->St->Hp->Prop,∀i σ H',Pv i σ H'↔(∃o4 o5 o6 o7 o8 o9 rn:Option V,σ=[some v,some (.ref ca),some (.ref l),some (.int bd),o4,o5,o6,o7,o8,o9,rn]/\aF H H'/\t_ x c st (some bd) i 0):=⟨_,fun _ _ _=>oV⟩
 refine EK.of hl Pv ((hPv _ _ _).mpr ⟨_,_,_,_,_,_,_,rfl,aF.refl _,fun p' c' h=>by omega⟩) (fun i σ H' _ hh=>?_) ?_ ?_
 ·obtain⟨_,_,_,_,_,_,_,_,s',_⟩:=(hPv _ _ _).mp hh
  exact s' _ _ hl
 ·intro i y σ H2 pp hy hh fp
  obtain⟨o4,o5,o6,o7,o8,o9,rn,rfl,s2,hna⟩:=(hPv _ _ _).mp hh
  have hi:i<n:=by rw[<- hyl]; exact(iQ.mp hy).1
  have hin:i<(aJ x c st n).length:=by rw[hlen]; exact hi
  obtain⟨y',y1,y2⟩:=lV hA hin
  rw[hy] at y1
  cases y1
  have s3:=aK fp (HO.tup [.int (i:Nat),y])
  refine⟨pp,_,rfl,cG.of az,rfl,?_⟩
  generalize upd H2 pp (HO.tup [.int (i:Nat),y])=H3 at s3 ⊢
  have nP:=s2.trans s3
  walk_at "rd"
  rw[Dv]
  walk_at "rd"
  obtain⟨pe2,w1,w2,w3,w4,rfl,h1,h2,h3,h4⟩:=jt y2
  have hE:=jJ hx hv hs n _ (oE hin).1
  have hcm:=Wn hE hW
  obtain⟨g1,g2⟩:=XS hlen hi
  refine Yj hv hE (fun R hR=>by walk_at "rd"; exact Ix.tup (nP _ _ h1) (v:=.ref w2) rfl hR) (nP _ _ h3) (nP _ _ hc) (hcA.mono nP) fun acc b r H4 s4 hl4 acy=>⟨acc,b,r,rfl,hl4,?_⟩
  have Jw:=nP.trans s4
  obtain⟨Pw,Sh⟩:∃Pw:Nat->St->Hp->Prop,∀j σ H',Pw j σ H'↔(∃o6 o7 o8 o9 rn:Option V,σ=[some v,some (.ref ca),some (.ref l),some (.int bd),some (.int (i:Nat)),some (.ref pe2),o6,o7,o8,o9,rn]/\aF H H'/\t_ x c st (some bd) i j):=⟨_,fun _ _ _=>oV⟩
  refine FK.of acy (by omega) Pw ((Sh _ _ _).mpr ⟨_,_,_,_,_,rfl,Jw,hna⟩) ?_ ?_
  ·intro j σ H5 hj hh5
   obtain⟨o6,o7,o8,o9,rn,rfl,s5,hnj⟩:=(Sh _ _ _).mp hh5
   walk_at "rd"
   rw[zq]
   refine Ix.tup (s5 _ _ h1) (v:=w1) rfl ⟨v,w1,x,(dY (aJ x c st n) i).st,j,12,rfl,a1.mono s5,h2.mono s5,hx,hE.st,fun p6 u6 H6 s6 b6 e6=>?_⟩
   refine⟨p6,_,rfl,cG.of e6,rfl,?_⟩
   walk_at "rd"
   have VV:=s5.trans s6
   obtain⟨sa,sb,sc,rfl,k1,_⟩:=eX b6
   refine Ix.tup k1 (v:=.int (jq x (dY (aJ x c st n) i).st j).w) rfl ⟨_,_,rfl,rfl,?_⟩
   have eb:IW x (some bd) (dY (aJ x c st n) i) j=(decide (bd<(jq x (dY (aJ x c st n) i).st j).w) || decide (0<(j:Int)-bL x (dY (aJ x c st n) i).st j)):=rfl
   have brk:IW x (some bd) (dY (aJ x c st n) i) j=true->∀H7 q7,aF H H7->H7 q7=some (.tup [.int (i:Nat),.int (j:Nat)])->Q (.ref q7) H7:=fun hb H7 q7 s7 e7=>qB i j ⟨g1,by rw[<- g2]; exact hj,hnj,by rw[<- g2]; exact hb,.inr (by
    have k1:=HD g1 (show j<=_ by rw[<- g2]; omega)
    have k2:=ju hlen (i+1)
    have k3:=D.hl
    have k4:=uJ (x:=x) (cv:=c) (st:=st) n
    omega)⟩ q7 H7 s7 e7
   by_cases c1:bd<(jq x (dY (aJ x c st n) i).st j).w
   ·rw[aL (gC c1)]
    exact⟨(by decide),fun p7 H7 f7 s7 e7=>brk (by rw[eb,gC c1]; rfl) H7 p7 (VV.trans s7) e7⟩
   ·rw[bB (by rw[gY c1]; decide)]
    by_cases c2:0<(j:Int)-bL x (dY (aJ x c st n) i).st j
    ·rw[aL (gC c2)]
     exact⟨(by decide),fun p7 H7 f7 s7 e7=>brk (by rw[eb,gC c2,Bool.or_true]) H7 p7 (VV.trans s7) e7⟩
    ·rw[bB (by rw[gY c2]; decide)]
     refine(Sh _ _ _).mpr ⟨_,_,_,_,_,rfl,VV,fun p' c' h1' h2' h3'=>?_⟩
     by_cases z:p'=i/\c'=j
     ·obtain⟨rfl,rfl⟩:=z
      rw[<- g2,eb,gY c1,gY c2]; rfl
     ·exact hnj p' c' (by omega) h2' h3'
  ·intro σ H5 hh5
   obtain⟨o6,o7,o8,o9,rn,rfl,s5,hnj⟩:=(Sh _ _ _).mp hh5
   refine(hPv _ _ _).mpr ⟨_,_,_,_,_,_,_,rfl,s5,fun p' c' t1 t2 t3=>?_⟩
   by_cases z:p'=i
   ·subst z
    exact hnj p' c' (.inr ⟨rfl,by rw[g2]; exact t3⟩) t2 t3
   ·exact hnj p' c' (.inl (by omega)) t2 t3
 ·intro σ H2 hh
  obtain⟨o4,o5,o6,o7,o8,o9,rn,rfl,s2,hna⟩:=(hPv _ _ _).mp hh
  walk_at "rd"
  rw[hyl] at hna
  exact qD ⟨hlen,hna,D.hl⟩ H2 s2
def ZP:Sp:=fun vs H Q _=>∃(v u cv:V) (l:Addr) (x:cO) (st:cJ) (c:Cv) (bd:Int) (L:List Int),vs=[v,u,cv,.int bd,.ref l]/\At H (gZ x) v/\At H (lC st) u/\At H (CP c) cv/\Su x/\Yr st/\c.length<=10/\H l=some (.lst (L.map V.int))/\L.length<=900 /\
 (∀k j,j<=k->k<L.length->∀q∈c,((L.take (k+1)).drop j).sum<=q.1+q.2*((k:Int)+1-j)) /\
 (∀k,k<L.length->(decide ((cN x st (L.take (k+1))).w>bd) || decide (L.getD k 0-bL x (cN x st (L.take k)) (L.getD k 0)>0))=decide ((k:Int)=(L.length:Int)-1)) /\
 ∀H',aF H H'->Q (.bl true) H'
theorem jG:aV ["_law_post","_law_stand","_law_curve_here","_law_bound_here","_law_load","_law_k","_law_burst","_law_rate","_law_away"] ["_law_post","_law_stand","_law_curve_here","_law_bound_here","_law_load"] (aH gQ):=(by walk_at "c")
theorem qG (F:iW K "_law_broken_right" "_law_broken_right" gQ f fd) (B:Bi mg) (RZ:Ct P w K mg base k "_law_beat" ["_law_post","_law_stand","_law_come"] Jo):bQ P w K mg base iH (k+1) f fd ["_law_post","_law_stand","_law_curve_here","_law_bound_here","_law_load"] ZP:=by
 refine F.ok jG (by rintro vs H Q E ⟨v,u,cv,l,x,st,c,bd,L,rfl,_⟩; rfl) (fun cdv A outer s H vs Q E hr h=>?_)
 obtain⟨v,u,cv,l,x,st,c,bd,L,rfl,a1,a2,a3,hx,hs,hcl,hl,hL,hWi,hBr,q⟩:=h
 have ND:=jG.nd
 refine⟨_,(aq (g8 PassesOwn.never rfl (cY (by rfl) B.range (aa (pb (dW (K:=K) rfl) B.len jy (aa (pv 4) aj)) aj)) (aD (i:=5) ND rfl (by walk_at "o")) (aq (g8 PassesOwn.never rfl (QD (pv 2)) (bJ (K:=K) (n:=2) rfl rfl (aC (aD (i:=6) ND rfl (by walk_at "o")) (aC (aD (i:=7) ND rfl (by walk_at "o")) bI))) (aG (dJ (jR (pb (NK rfl) B.any Ym (aa (iw (N':=["_law_j","_law_load","_law_k","_law_burst","_law_rate"]) (js:=[4,5,6,7]) rfl (cY (by rfl) B.range (aa (aM bD (pv 5) ao) aj)) uO.mk4 rfl (by decide) rfl (fun fp s' H'=>(dC jn (pb (lg rfl) B.sum xN (aa (dh (P0 (K:=K) rfl) (pv 1) (cV (pv 0)) (cV (aM bD (pv 2) ao))) aj)) (aM bD (pv 3) (aM fC (pv 4) (aM du (aM bD (pv 2) ao) (pv 0)))) (aR _)))) aj))) (aG (aX qz)) bT))) (aq (cU (pf RZ hr (aa (pv 0) (aa (pv 1) (aa (aZ aO (pv 4) (pv 5) (fun _ _=>rfl)) aj)))) (bJ (K:=K) (n:=2) rfl rfl (aC (aD (i:=1) ND rfl (by walk_at "o")) (aC (aD (i:=8) ND rfl (by walk_at "o")) bI)))) (aG (dJ (a_ JX (V8 (dC jn (aZ aO (pv 1) ao (fun _ _=>rfl)) (pv 3) (aR _)) (vY (dC jn (pv 8) ao (aR _)))) (dC iV (pv 5) (aM du (pb (dW (K:=K) rfl) B.len jy (aa (pv 4) aj)) ao) (aR _)) (aR _)) (aG (aX qz)) bT))))) (aG (aX qz))),?_⟩
 obtain⟨ca,xs,rfl,hc,hcA⟩:=bC a3
 have lxs:xs.length=c.length:=by rw[hcA.length,bR]
 walk_at "rd"
 obtain⟨Pv,hPv⟩:∃Pv:Nat->St->Hp->Prop,∀i σ H',Pv i σ H'↔(∃(u':V) (o5 o6 o7 o8:Option V),σ=[some v,some u',some (.ref ca),some (.int bd),some (.ref l),o5,o6,o7,o8]/\aF H H'/\At H' (lC (cN x st (L.take i))) u'/\Yr (cN x st (L.take i))):=⟨_,fun _ _ _=>oV⟩
 refine Gb (n:=L.length) (fun R hR=>?_) (by omega) Pv ((hPv _ _ _).mpr ⟨_,_,_,_,_,rfl,aF.refl _,a2,hs⟩) ?_ ?_
 ·walk_at "rd"
  refine⟨l,_,rfl,.inl (dX.of hl),?_⟩
  rw[bR]
  exact hR
 ·intro i σ H2 hi hh
  obtain⟨u',o5,o6,o7,o8,rfl,s2,b2,hsW⟩:=(hPv _ _ _).mp hh
  walk_at "rd"
  rw[uU]
  walk_at "rd"
  obtain⟨Pw,Sh⟩:∃Pw:Nat->St->Hp->Prop,∀i' σ H',Pw i' σ H'↔(∃(o6 o7:Option V),σ=[some v,some u',some (.ref ca),some (.int bd),some (.ref l),some (.int (0+(i:Nat))),o6,o7,o8]/\aF H H'/\At H' (lC (cN x st (L.take i))) u'):=⟨_,fun _ _ _=>oV⟩
  refine TK.of (s2 _ _ hc) Pw ((Sh _ _ _).mpr ⟨_,_,rfl,s2,b2⟩) (fun i' σ H' _ h'=>?_) ?_ ?_
  ·obtain⟨_,_,_,s',_⟩:=(Sh _ _ _).mp h'
   exact s' _ _ hc
  ·intro i' y σ H3 hy h'
   obtain⟨o6',o7',rfl,s3,b3⟩:=(Sh _ _ _).mp h'
   obtain⟨b,rfl,hi',hb⟩:=xf hcA hy
   refine⟨b,_,rfl,cG.of (s3 _ _ hb),rfl,?_⟩
   walk_at "rd"
   have hq:c.getD i' (0,0)∈c:=by
    rw[fJ,fM hi']
    exact BJ _
   generalize c.getD i' (0,0)=qq at hq
   have h3l:=s3 _ _ hl
   refine RL (n:=i+1) (fun R hR=>by walk_at "rd"; rw[show(0+(i:Int)+1)=((i+1:Nat):Int) by omega]; exact hR) (by omega) fun acc hacc=>⟨fun j ys H'=>ys=(List.replicate j false).map V.bl/\aF H3 H'/\H' acc=some (.lst ys),⟨rfl,aK hacc _,az⟩,?_,?_⟩
   ·rintro j ys H4 hj ⟨rfl,s4,e4⟩
    rw[show bW [4,5,6,7] [some v,some u',some (V.ref ca),some (V.int bd),some (V.ref l),some (V.int (0+(i:Nat))),some (V.int qq.1),some (V.int qq.2),o8]=[some (V.ref l),some (V.int (0+(i:Nat))),some (V.int qq.1),some (V.int qq.2)] from rfl]
    walk_at "rd"
    refine Qo.of (s4 _ _ h3l) fun p5 H5 f5 s5 e5=>?_
    rw[show(0+(j:Int))=((j:Nat):Int) by omega,show(0+(i:Int)+1)=((i+1:Nat):Int) by omega,Vf (by omega) (by rw[bR]; omega),<- vO,<- List.map_drop] at e5
    refine⟨p5,_,rfl,.inl e5,?_⟩
    have hle:=hWi i j (by omega) hi qq hq
    refine⟨.inr ⟨by omega,by omega⟩,s5 _ _ e4,by rw[bR,BK]; exact bw (by omega),?_,(s4.trans s5).d7 hacc,az⟩
    rw[show(0+(i:Int)+1-(0+(j:Int)))=(i:Int)+1-j by omega,gY (by omega)]
    have e:=gW (List.map V.bl) (List.replicate_succ' (n:=j) (a:=false))
    rw[jC] at e
    exact e.symm
   ·rintro ys H4 ⟨rfl,s4,e4⟩
    refine⟨acc,_,rfl,e4,?_⟩
    rw[bB (by simp)]
    exact(Sh _ _ _).mpr ⟨_,_,rfl,s3.trans s4,b3.mono s4⟩
  ·intro σ H3 h'
   obtain⟨o6',o7',rfl,s3,b3⟩:=(Sh _ _ _).mp h'
   try dsimp only
   walk_at "rd"
   have hget:Dq (L.map V.int) (0+(i:Int))=some (.int (L.getD i 0)):=qY (by omega) hi
   have htk:L.take (i+1)=L.take i++[L.getD i 0]:=by
    rw[List.take_add_one,fJ,fM hi]; rfl
   have hB:=hBr i hi
   rw[htk,eE] at hB
   refine Ix.lst (s3 _ _ hl) hget ⟨v,u',x,_,L.getD i 0,rfl,a1.mono s3,b3,hx,hsW,fun p4 u4 H4 s4 b4 e4=>?_⟩
   refine⟨p4,_,rfl,cG.of e4,rfl,?_⟩
   have b4':=b4
   obtain⟨sa,sb,sc,rfl,k1,_⟩:=eX b4
   have fin:Pv (i+1) [some v,some (.ref sa),some (.ref ca),some (.int bd),some (.ref l),some (.int (0+(i:Nat))),o6',o7',some (.int (L.getD i 0-bL x (cN x st (L.take i)) (L.getD i 0)))] H4:=
    (hPv _ _ _).mpr ⟨_,_,_,_,_,rfl,s3.trans s4,by rw[htk,eE]; exact b4',by rw[htk,eE]; exact hsW.next hx⟩
   generalize (jq x (cN x st (L.take i)) (L.getD i 0)).w=ww at k1 hB
   generalize L.getD i 0-bL x (cN x st (L.take i)) (L.getD i 0)=aw at hB fin
   rw[zq] at fin
   walk_at "rd"
   refine Ix.tup k1 (v:=.int ww) rfl ⟨_,_,rfl,rfl,?_⟩
   by_cases c1:bd<ww
   ·rw[aL (gC c1)]
    refine⟨l,_,rfl,.inl (dX.of ((s3.trans s4) _ _ hl)),_,_,rfl,rfl,rfl,_,rfl,?_⟩
    rw[gC (show ww>bd from c1),Bool.true_or] at hB
    rw[bR,zq,<- hB,bB (by decide)]
    exact fin
   ·rw[bB (by rw[gY c1]; decide)]
    refine⟨l,_,rfl,.inl (dX.of ((s3.trans s4) _ _ hl)),_,_,rfl,rfl,rfl,_,rfl,?_⟩
    rw[gY (show ¬ww>bd from c1),Bool.false_or] at hB
    rw[bR,zq,<- hB,bB (by cases decide (aw>0) <;> decide)]
    exact fin
 ·intro σ H2 hh
  obtain⟨u',o5,o6,o7,o8,rfl,s2,b2,hsW⟩:=(hPv _ _ _).mp hh
  walk_at "rd"
  exact q H2 s2
def stp (q:Int×Int) (l x:Int):Int:=if l+q.2-x<q.1 then l+q.2-x else q.1
def Dz (c:Cv) (L:List Int):List Int:=L.foldl (gO c) (c.map (·.1))
theorem Dy (c:Cv) (L:List Int) (x:Int):Dz c (L++[x])=gO c (Dz c L) x:=by
 unfold Dz
 rw[List.foldl_append]
 rfl
theorem fold_map:∀(L:List Int) (c:Cv) (g:Int×Int->Int),L.foldl (gO c) (c.map g)=c.map fun q=>L.foldl (stp q) (g q)
 | [],c,g=>rfl
 | x::L,c,g=>by
  have e:gO c (c.map g) x=c.map fun q=>stp q (g q) x:=by
   unfold gO
   rw[List.zipWith_map_right,List.zipWith_self]
   rfl
  rw[List.foldl_cons,e,fold_map L c]
  rfl
theorem snoc_ind {Pr:List Int->Prop} (h0:Pr []) (hs:∀L x,Pr L->Pr (L++[x])):∀L,Pr L:=fun L=>by
 have:∀n (L:List Int),L.length=n->Pr L:=fun n=>by
  induction n with
  | zero=>intro L h; rw[L_.mp h]; exact h0
  | succ n ih=>
   intro L h
   have hne:L≠[]:=fun z=>by rw[z] at h; cases h
   rw[<- List.dropLast_concat_getLast hne]
   exact hs _ _ (ih _ (by rw[List.length_dropLast,h]; rfl))
 exact this _ L rfl
theorem W3 (q:Int×Int):∀L:List Int,∀j,j<=L.length->L.foldl (stp q) q.1<=q.1+q.2*((L.length:Int)-j)-(L.drop j).sum:=by
 refine snoc_ind (fun j hj=>?_) (fun L x ih j hj=>?_)
 ·have:j=0:=by simpa using hj
  subst this
  simp
 ·rw[List.foldl_append]
  show stp q (L.foldl (stp q) q.1) x<=_
  rw[fP] at hj
  have hj:j<=L.length+1:=hj
  by_cases z:j<=L.length
  ·have:=ih j z
   rw[List.drop_append_of_le_length z,List.sum_append,fP]
   show stp q (L.foldl (stp q) q.1) x<=q.1+q.2*(((L.length+1:Nat):Int)-j)-((L.drop j).sum+(x+0))
   rw[show(((L.length+1:Nat):Int)-j)=((L.length:Int)-j)+1 by omega,Int.mul_add,Int.mul_one]
   generalize L.foldl (stp q) q.1=F at this ⊢
   unfold stp
   split <;> omega
  ·have e:j=L.length+1:=by omega
   subst e
   rw[fP,JL (by rw[fP]; exact bF _)]
   show stp q (L.foldl (stp q) q.1) x<=q.1+q.2*(((L.length+1:Nat):Int)-((L.length+1:Nat):Int))-0
   rw[Int.sub_self,Int.mul_zero]
   generalize L.foldl (stp q) q.1=F
   unfold stp
   split <;> omega
theorem W6 {c:Cv} {L:List Int} (h:∀s∈Dz c L,0<=s) {q:Int×Int} (hq:q∈c) {j:Nat} (hj:j<=L.length):(L.drop j).sum<=q.1+q.2*((L.length:Int)-j):=by
 have h1:=W3 q L j hj
 have h2:=h (L.foldl (stp q) q.1) (by
  unfold Dz
  rw[fold_map]
  exact iK.mpr ⟨q,hq,rfl⟩)
 omega
section
variable {x:cO} {c:Cv} {st:cJ}
theorem Fg {n:Nat} (hn:(aJ x c st n).length=n):∀p,p<n->Dz c (bz (aJ x c st n) n p)=(dY (aJ x c st n) p).sp:=by
 intro p
 induction p using Nat.strongRecOn with
 | _ p ih=>
  intro hp
  by_cases p0:p=0
  ·subst p0
   rw[nU]
   obtain⟨r,hr⟩:=jb (x:=x) (cv:=c) (st:=st) 0 n
   rw[Bu] at hr
   rw[hr,iy (by simp[aJ])]
   rfl
  ·obtain⟨q,cc,k1,k2,k3⟩:=oh (x:=x) (c:=c) (st:=st) n p (by omega) (by omega)
   obtain⟨b1,b2⟩:=nW hn hp (by rw[k3]; rfl)
   obtain⟨qn,qe⟩:=oA hn k1
   rw[b2,Dy,k3,ih q b1 (by omega),qe]
   rfl
theorem Ug {n:Nat} (hx:iU x) (hv:yL c) (hs:eV st) (hn:(aJ x c st n).length=n):∀p,p<n->∀k,k<=(bz (aJ x c st n) n p).length->∀s∈Dz c ((bz (aJ x c st n) n p).take k),0<=s:=by
 intro p
 induction p using Nat.strongRecOn with
 | _ p ih=>
  intro hp k hk
  by_cases z:k=(bz (aJ x c st n) n p).length
  ·rw[z,pC,Fg hn p hp]
   exact(jJ hx hv hs n _ (oE (by omega)).1).nn
  ·have p0:p≠0:=fun e=>by rw[e,nU] at hk z; simp at hk z; omega
   obtain⟨q,cc,k1,k2,k3⟩:=oh (x:=x) (c:=c) (st:=st) n p (by omega) (by omega)
   obtain⟨b1,b2⟩:=nW hn hp (by rw[k3]; rfl)
   rw[b2] at hk z ⊢
   rw[fP] at hk z
   have hk:k<=(bz (aJ x c st n) n q).length+1:=hk
   have z:k≠(bz (aJ x c st n) n q).length+1:=z
   rw[El (by omega)]
   exact ih q b1 (by omega) k (by omega)
theorem Ml {n P CC:Nat} {bd lim:Int} (hx:iU x) (hN:Dr x) (hs:eV st) (hn:(aJ x c st n).length=n) (Bk:jz x c st (some bd) lim P CC):∀p,p<n->p<=P->∀k,k<(bz (aJ x c st n) n p).length ->
  (decide ((cN x st ((bz (aJ x c st n) n p).take (k+1))).w>bd) || decide ((bz (aJ x c st n) n p).getD k 0-bL x (cN x st ((bz (aJ x c st n) n p).take k)) ((bz (aJ x c st n) n p).getD k 0)>0))=false:=by
 intro p
 induction p using Nat.strongRecOn with
 | _ p ih=>
  intro hp hpP k hk
  have p0:p≠0:=fun e=>by rw[e,nU] at hk; simp at hk
  obtain⟨q,cc,k1,k2,k3⟩:=oh (x:=x) (c:=c) (st:=st) n p (by omega) (by omega)
  obtain⟨b1,b2⟩:=nW hn hp (by rw[k3]; rfl)
  obtain⟨qn,qe⟩:=oA hn k1
  rw[b2] at hk ⊢
  rw[fP] at hk
  have hk:k<(bz (aJ x c st n) n q).length+1:=hk
  by_cases z:k<(bz (aJ x c st n) n q).length
  ·rw[El (by omega),El (by omega),fJ,BL z,<- fJ]
   exact ih q b1 (by omega) (by omega) k z
  ·have e:k=(bz (aJ x c st n) n q).length:=by omega
   subst e
   obtain⟨g1,g2⟩:=zW (c:=c) (cc:=cc) hx hN hs hn qn
   rw[LR (by rw[fP]; exact bF _),El (bF _),pC,fJ,vM (bF _),vI]
   show(decide ((cN x st (bz (aJ x c st n) n q++[(cc:Int)])).w>bd) || decide ((cc:Int)-bL x (cN x st (bz (aJ x c st n) n q)) cc>0))=false
   rw[g1,g2,qe]
   exact Bk.hb q cc (.inl (by omega)) k1 k2
theorem N5 {b lim:Int} {n p cc:Nat} (hx:iU x) (hN:Dr x) (hs:eV st) (hn:(aJ x c st n).length=n) (Bk:jz x c st (some b) lim p cc) :
  (decide ((cN x st (bz (aJ x c st n) n p++[(cc:Int)])).w>b) || decide ((cc:Int)-bL x (cN x st (bz (aJ x c st n) n p)) cc>0))=true:=by
 obtain⟨h1,h2⟩:=oA hn Bk.hp
 obtain⟨g1,g2⟩:=zW (cc:=cc) hx hN hs hn h1
 rw[g1,g2,h2]
 exact Bk.hk
theorem Vm {n P CC:Nat} {bd lim:Int} (hx:iU x) (hN:Dr x) (hv:yL c) (hs:eV st) (hn:(aJ x c st n).length=n) (Bk:jz x c st (some bd) lim P CC) :
  (∀k j,j<=k->k<(jZ x c st P CC).length->∀q∈c,(((jZ x c st P CC).take (k+1)).drop j).sum<=q.1+q.2*((k:Int)+1-j)) /\
  (∀k,k<(jZ x c st P CC).length->(decide ((cN x st ((jZ x c st P CC).take (k+1))).w>bd) || decide ((jZ x c st P CC).getD k 0-bL x (cN x st ((jZ x c st P CC).take k)) ((jZ x c st P CC).getD k 0)>0))=decide ((k:Int)=((jZ x c st P CC).length:Int)-1)):=by
 rw[qX hn Bk]
 obtain⟨Pn,Pe⟩:=oA hn Bk.hp
 have hl:(bz (aJ x c st n) n P++[(CC:Int)]).length=(bz (aJ x c st n) n P).length+1:=by rw[fP]; rfl
 refine⟨fun k j hj hk q hq=>?_,fun k hk=>?_⟩
 ·rw[hl] at hk
  have nn:∀s∈Dz c ((bz (aJ x c st n) n P++[(CC:Int)]).take (k+1)),0<=s:=by
   by_cases z:k<(bz (aJ x c st n) n P).length
   ·rw[El (by omega)]
    exact Ug hx hv hs hn P Pn (k+1) (by omega)
   ·rw[LR (by rw[hl]; omega),Dy,Fg hn P Pn]
    have hE:=jJ hx hv hs n _ (oE (show P<(aJ x c st n).length by omega)).1
    have hc:=Bk.hc
    rw[<- Pe] at hc
    exact J8 hv hE.sl (by unfold rB at hc; omega)
  have e:((bz (aJ x c st n) n P++[(CC:Int)]).take (k+1)).length=k+1:=by rw[jj,hl]; omega
  have:=W6 nn hq (j:=j) (by omega)
  rw[e] at this
  exact this
 ·rw[hl] at hk
  by_cases z:k<(bz (aJ x c st n) n P).length
  ·rw[gY (show ¬((k:Int)=((bz (aJ x c st n) n P++[(CC:Int)]).length:Int)-1) by rw[hl]; omega)]
   rw[El (by omega),El (by omega),fJ,BL z,<- fJ]
   exact Ml hx hN hs hn Bk P Pn (bF _) k z
  ·have e:k=(bz (aJ x c st n) n P).length:=by omega
   rw[gC (show(k:Int)=((bz (aJ x c st n) n P++[(CC:Int)]).length:Int)-1 by rw[hl]; omega)]
   subst e
   rw[LR (by rw[hl]; exact bF _),El (bF _),pC,fJ,vM (bF _),vI]
   exact N5 hx hN hs hn Bk
end
variable {bf bu:Addr}
theorem ZQ {A:TA} {e:TE} {c d:TS}:Bj (Td 11 12 A) (Bj (xW e (dG 13)) (d8 c d))=d8 (Bj (Td 11 12 A) (Bj (xW e (dG 13)) c)) d:=rfl
def Jl (K:PySem.W.Frag):Sp:=fun vs H Q _=>∃(p:Addr) (ns:List Int),vs=[.ref p]/\Ss K H p (ns.map V.int)/\ns.length<=63/\∀H',Q (.bl true) H'
theorem Qg:aV ["_law_script","_law_cells","_law_k","_law_tape_here","_law_post","_law_stand","_law_curve_here","_law_entries","_law_turn","_law_kept","_law_bound_here","_law_found","_law_due","_law_first"] ["_law_script"] (aH vp):=(by walk_at "c")
theorem XC (F:iW K "law" "law" vp f fd) (B:Bi mg) (Iz:Ct P w K mg base k "_law_folded" ["_law_script","_law_many"] (PQ K)) (RX:Ct P w K mg base k "_law_tape" ["_law_script","_law_k"] (Pu K)) (xH:Ct P w K mg base k "_law_small_post" ["_law_tape_here"] Jh) (ur:Ct P w K mg base k "_law_small_stand" ["_law_tape_here","_law_post"] DG) (NQ:Ct P w K mg base k "_law_curve" ["_law_tape_here"] Jq) (qR:GK P w K mg base k "_law_led" ["_law_post","_law_stand","_law_curve_here"] (Hj bf bu)) (RW:Ct P w K mg base k "_law_told" ["_law_call","_law_post","_law_stand","_law_curve_here"] (Jg qR.f)) (NZ:Ct P w K mg base k "_law_bound" ["_law_tape_here","_law_post","_law_stand","_law_entries"] VP) (qQ:Vv P w K mg base k "opened" ["post","stand","curve","bound","limit"] 300 (DK bf bu)) (Am:Vv P w K mg base k "led" ["post","stand","curve","limit"] 300 (PN bf bu)) (uv:Ct P w K mg base k "_law_first_break" ["_law_post","_law_curve_here","_law_entries","_law_bound_here"] ZM) (Gk:Ct P w K mg base k "_law_load_to" ["_law_entries","_law_place"] pY) (sZ:Ct P w K mg base k "_law_broken_right" ["_law_post","_law_stand","_law_curve_here","_law_bound_here","_law_load"] ZP) (nG:Ct P w K mg base k "_law_same" ["_law_found","_law_due"] (Px 7)):bQ P w K mg base iH (k+1) f fd ["_law_script"] (Jl K):=by
 refine F.ok Qg (by rintro vs H Q E ⟨p,ns,rfl,_⟩; rfl) (fun cdv A outer s H vs Q E hr h=>?_)
 obtain⟨p,ns,rfl,hS,hl,q⟩:=h
 have ND:=Qg.nd
 refine⟨_,(aq (aW (i:=1) ND rfl (by walk_at "o") (pf Iz hr (aa (pv 0) (aa ao aj)))) (aq (g8 PassesOwn.never rfl (cY (by rfl) B.range (aa (pb (dW (K:=K) rfl) B.len jy (aa (pv 1) aj)) aj)) (aD (i:=2) ND rfl (by walk_at "o")) (aq (aW (i:=3) ND rfl (by walk_at "o") (pf RX hr (aa (pv 1) (aa (pv 2) aj)))) (aq (aW (i:=4) ND rfl (by walk_at "o") (pf xH hr (aa (pv 3) aj))) (aq (pF (i:=5) (j:=6) rfl ND rfl rfl (by decide) rfl rfl (aa (pf ur hr (aa (pv 3) (aa (pv 4) aj))) (aa (pf NQ hr (aa (pv 3) aj)) aj)) (by rfl)) (aq (aW (i:=7) ND rfl (by walk_at "o") (pf RW hr (aa (Xq qR) (aa (pv 4) (aa (pv 5) (aa (pv 6) aj)))))) (aG (g8 PassesOwn.never rfl (cY (by rfl) B.range (aa (aM fC ao (pt (lq) B.int tE (aa (dC jH (pv 7) dR (aR _)) aj))) aj)) (aD (i:=8) ND rfl (by walk_at "o")) (aq (pF (i:=9) (j:=10) rfl ND rfl rfl (by decide) rfl rfl (aa (pt (Al) B.list jd (aa (pv 7) aj)) (aa (pf NZ hr (aa (pv 3) (aa (pv 4) (aa (pv 5) (aa (pv 7) aj))))) aj)) (by rfl)) (aq (pF (i:=11) (j:=12) rfl ND rfl rfl (by decide) rfl rfl (aa (pf qQ.all.calm hr (aa (pv 4) (aa (pv 5) (aa (pv 6) (aa (pv 10) (aa ao aj)))))) (aa (bj (aa dN (aa (pv 9) aj))) aj)) (by rfl)) (aq (aW (i:=13) ND rfl (by walk_at "o") (pf uv hr (aa (pv 4) (aa (pv 6) (aa (pv 9) (aa (pv 10) aj)))))) (aq (dJ (a_ jH (pv 13) dR (aR _)) (aG (aW (i:=12) ND rfl (by walk_at "o") (bj (aa dN (aa (aM v_ (pf Gk hr (aa (pv 9) (aa (aZ aO (pv 13) ao (fun _ _=>rfl)) aj))) (b8 (aa (aZ aO (pv 13) ao (fun _ _=>rfl)) aj))) aj))))) bT) (aq (dJ (PW.pt (zP (BP (jR (pf nG hr (aa (pv 11) (aa (pv 12) aj))))) (rZ (BP (jR (pf nG hr (aa (pf Am.all.calm hr (aa (pv 4) (aa (pv 5) (aa (pv 6) (aa ao aj))))) (aa (pv 9) aj)))))))) (aG (aX qz)) bT) (aq (dJ (PW.pt (sr (a_ jH (pv 13) dR (aR _)) (nQ (BP (jR (pf sZ hr (aa (pv 4) (aa (pv 5) (aa (pv 6) (aa (pv 10) (aa (aZ aO (pv 12) ao (fun _ _=>rfl)) aj))))))))))) (aG (aX qz)) bT) (aq (iZ (mZ (K:=K) rfl PySem.F.plainAttrs_list PySem.F.slot_list_append PySem.F.type_list_append fZ (aZ aO (pv 11) ao (fun _ _=>rfl)) (aa ao aj))) (aG (dJ (PW.pt (zP (BP (jR (pf nG hr (aa (pf qQ.all.calm hr (aa (pv 4) (aa (pv 5) (aa (pv 6) (aa (pv 10) (aa ao aj)))))) (aa (pv 12) aj))))) (rZ (a_ (BX hr.units) (pv 7) (pv 9) (aR _))))) (aG (aX qz)) bT)))))))))))))))) (aG (aX qz)))),?_⟩
 simp only[Qe,ZQ]
 walk_at "rd"
 refine⟨p,ns,rfl,hS,hl,fun pc cs H1 s1 e1 l1 l2=>?_⟩
 refine Gb (n:=cs.length) (fun R hR=>?_) (by omega) (fun i σ H'=>∃o2 o3 o4 o5 o6 o7 o8 o9 rn zR MN MK:Option V,σ=[some (.ref p),some (.ref pc),o2,o3,o4,o5,o6,o7,o8,o9,rn,zR,MN,MK]/\H' pc=some (.lst (cs.map V.int))) ⟨_,_,_,_,_,_,_,_,_,_,_,_,rfl,e1⟩ ?_ ?_
 ·walk_at "rd"
  refine⟨pc,_,rfl,.inl (dX.of e1),?_⟩
  rw[bR]
  exact hR
 ·rintro i σ H2 hi ⟨o2,o3,o4,o5,o6,o7,o8,o9,rn,zR,MN,MK,rfl,e2⟩
  walk_at "rd"
  refine⟨pc,cs,_,rfl,dX.of e2,by omega,by omega,fun a H3 f3 s3 t3=>?_⟩
  have npc:pc≠a:=bN e2 f3
  refine⟨a,_,rfl,t3,by omega,fun p4 x H4 hx b1 t4 s4=>⟨a,_,.ref p4,x,rfl,b1.mono cX,hx.l,t4,by omega,fun p5 st H5 hs b2 t5 s5=>⟨a,_,rfl,t5,by omega,fun p6 c H6 hc hcb b3 t6 s6=>?_⟩⟩⟩
  have hW:cF c (c.map (·.1))<=23:=by
   have:=Q0 (m:=7) hc fun q hq=>by have:=hcb q hq; omega
   omega
  have g1:At (hid a H6) (gZ x) (.ref p4):=b1.mono (s5.trans s6)
  have g2:At (hid a H6) (lC st) (.ref p5):=b2.mono s6
  have g3:At (hid a H6) (CP c) (.ref p6):=b3
  have p7:H6 pc=some (.lst (cs.map V.int)):=s6.get npc (s5.get npc (s4.get npc (s3 _ _ e2)))
  have hxi:=hx.l.is
  have hxn:=Xl hx.l
  clear b1 b2 b3 t3 t4 t5 s3 s4 s5 s6 e2
  walk_at "rd"
  have fin:∀H',SX a H6 H'->∀(o2 o3 o4 o5 o6 o7 o8 o9 rn zR MN MK:Option V),∃o2' o3' o4' o5' o6' o7' o8' o9' ab9 ab8 ab7 ab6:Option V,[some (.ref p),some (.ref pc),o2,o3,o4,o5,o6,o7,o8,o9,rn,zR,MN,MK]=[some (.ref p),some (.ref pc),o2',o3',o4',o5',o6',o7',o8',o9',ab9,ab8,ab7,ab6]/\H' pc=some (.lst (cs.map V.int)):=
   fun H' s' o2 o3 o4 o5 o6 o7 o8 o9 rn zR MN MK=>⟨_,_,_,_,_,_,_,_,_,_,_,_,rfl,s'.get npc p7⟩
  refine⟨_,_,rfl,_,_,_,x,st,c,rfl,g1.mono cX,g2.mono cX,g3.mono cX,hxi,hxn,hs.is,hc,hW,fun n D l ys H7 s7 f7 e7 A7=>?_,fun H7 s7=>?_⟩
  ·have la:l≠a:=t6.ne f7
   have t7:=t6.same s7
   have A7:ak (hid a H7) ((aJ x c st n).map gH) ys:=by
    obtain⟨xs,hxs⟩:∃xs,H7 a=some (.lst xs):=by
     unfold Tp at t7
     obtain⟨x1,x2,x3,h,_⟩:=t7
     exact⟨_,h⟩
    exact ak.sH hxs _ _ (sS _) A7
   have hnl:n<=900:=by have:=D.hl; omega
   have hyl:ys.length=n:=by rw[A7.length,bR,D.hn]
   have hne:aJ x c st n≠[]:=fun z=>by have:=uJ (x:=x) (cv:=c) (st:=st) n; rw[z] at this; simp at this
   obtain⟨Pv,hPv⟩:∃Pv:Nat->St->Hp->Prop,∀t σ H',Pv t σ H'↔(∃o8 o9 rn zR MN MK:Option V,σ=[some (.ref p),some (.ref pc),some (.int (0+(i:Nat))),some (.ref a),some (.ref p4),some (.ref p5),some (.ref p6),some (.ref l),o8,o9,rn,zR,MN,MK]/\SX a H7 H'/\∃N,N<=1000000+2*t/\Tp H' a N):=⟨_,fun _ _ _=>oV⟩
   refine Gb (n:=3) (fun R hR=>by walk_at "rd"; exact⟨trivial,.inl ⟨by decide,by decide⟩,hR⟩) (by decide) Pv ((hPv _ _ _).mpr ⟨_,_,_,_,_,_,rfl,SX.refl _ _,_,?_,t7⟩) ?_ ?_
   ·omega
   ·intro t σ G0 ht hh
    obtain⟨o8,o9,rn,zR,MN,MK,rfl,x0,N0,hN0,t0⟩:=(hPv _ _ _).mp hh
    walk_at "rd"
    have k1:At (hid a G0) (gZ x) (.ref p4):=(g1.mono (aF.hid s7)).mono x0
    have k2:At (hid a G0) (lC st) (.ref p5):=(g2.mono (aF.hid s7)).mono x0
    have k3:At (hid a G0) (CP c) (.ref p6):=(g3.mono (aF.hid s7)).mono x0
    have kA:ak (hid a G0) ((aJ x c st n).map gH) ys:=A7.mono x0
    have kl:G0 l=some (.lst ys):=x0.get la e7
    refine⟨l,ys,rfl,kl,fun l9 f9=>?_⟩
    have l9a:l9≠a:=t0.ne f9
    have V2:=aK f9 (HO.lst ys)
    have e9:upd G0 l9 (HO.lst ys) l9=some (.lst ys):=az
    generalize upd G0 l9 (HO.lst ys)=G1 at V2 e9
    refine⟨a,N0,.ref p4,.ref p5,l,ys,aJ x c st n,x,st,rfl,t0.same V2,by omega,(k1.mono cX).mono V2,(k2.mono cX).mono V2,hx.l,V2 _ _ kl,(kA.mono cX).mono V2,hne,by rw[D.hn]; omega,fun bd G2 t2 x2=>⟨_,_,rfl,?_⟩⟩
    have x12:SX a G0 G2:=(SX.of V2).trans x2
    have m1:At G2 (gZ x) (.ref p4):=(k1.mono x12).mono cX
    have m2:At G2 (lC st) (.ref p5):=(k2.mono x12).mono cX
    have m3:At G2 (CP c) (.ref p6):=(k3.mono x12).mono cX
    have mA:ak G2 ((aJ x c st n).map gH) ys:=(kA.mono x12).mono cX
    have ml:G2 l=some (.lst ys):=x12.get la kl
    have m9:G2 l9=some (.lst ys):=x2.get l9a e9
    have x72:SX a H7 G2:=x0.trans x12
    clear k1 k2 k3 kA kl x12 x2 V2 e9 f9 x0
    have sdE:SD 7 (.list ((aJ x c st n).map gH)):=SD.ents (n:=1) hc (by rw[D.hn]; omega) (jJ hxi hc hs.is n)
    obtain⟨R,hR⟩:∃R:St->Hp->Prop,∀σ' G5,R σ' G5↔(∃(q3 r3 due:Addr) (fv hw:V) (d:PyData) (zs:List V),σ'=[some (.ref p),some (.ref pc),some (.int (0+(i:Nat))),some (.ref a),some (.ref p4),some (.ref p5),some (.ref p6),some (.ref l),some (.int (0+(t:Nat))),some (.ref l9),some (.int bd),some (.ref q3),some (.ref due),some fv]/\aF G2 G5/\G2 r3=none/\G5 q3=some (.tup [hw,.ref r3])/\G5 r3=some (.lst zs)/\zs.length<=901/\At G5 d (.ref q3)/\At (hid r3 G5) d (.ref due)/\K_ x c st bd 200 1 d/\(fv=.non\/fv≠.non/\∃bp bc r5,jz x c st (some bd) 200 bp bc/\G5 due=some (.tup [.str "broken",.ref r5])/\G5 r5=some (.lst ((jZ x c st bp bc).map V.int)))):=⟨_,fun _ _=>oV⟩
    refine d8.of R (fun σ' G5 hh5=>?_) fun N hN=>?_
    ·have last:∀Sw,aF G2 Sw->∀(q3 due:Addr) (fv:V),∃d e,At Sw d (V.ref l)/\At Sw e (V.ref l9)/\d.hasDict=false/\e.hasDict=false/\d.canLay0=true/\e.canLay0=true/\d.depth<=60 /\
         if(!d.eqv e)=true then Q (V.bl false) Sw
         else
          Pv (t+1)
           [some (V.ref p),some (V.ref pc),some (V.int (0 + ↑i)),some (V.ref a),some (V.ref p4),
            some (V.ref p5),some (V.ref p6),some (V.ref l),some (V.int (0 + ↑t)),some (V.ref l9),
            some (V.int bd),some (V.ref q3),some (V.ref due),some fv]
           Sw:=fun Sw lB q3 due fv=>by
      obtain⟨d1,d2,d3⟩:=SD.data _ _ sdE
      refine⟨_,_,At.lst (lB _ _ ml) (mA.mono lB),At.lst (lB _ _ m9) (mA.mono lB),d1,d1,d2,d2,by omega,?_⟩
      rw[SeqAt.eqv_refl _ d2,bB (by decide)]
      exact(hPv _ _ _).mpr ⟨_,_,_,_,_,_,rfl,x72.trans (SX.of lB),N0+2,by omega,t2.same lB⟩
     obtain⟨q3,r3,due,fv,hw,d,zs,rfl,s5,f3,e3,Wm,hz,ad,ad2,An,hf⟩:=(hR _ _).mp hh5
     have sd:=An.sd hxi hc hs.is (by decide)
     refine d8.on (fun G6 s6=>?_) fun N hN=>?_
     ·refine d8.on (fun G7 Oc=>?_) fun N hN=>?_
      ·have s57:=s6.trans Oc
       have s27:=s5.trans s57
       walk_at "rd"
       have er7:=s57 _ _ Wm
       refine Ix.tup (s57 _ _ e3) (v:=.ref r3) rfl ⟨.inl ⟨rfl,_,dX.of er7⟩,r3,zs,_,rfl,rfl,er7,bw (by omega),?_⟩
       have s8:aF G2 (upd G7 r3 (.lst (zs++[V.int 7]))):=s27.d7 f3
       have ad8:At (upd G7 r3 (.lst (zs++[V.int 7]))) d (.ref due):=by
        have:=ad2.mono (aF.hid s57)
        rw[<- gF (o:=HO.lst (zs++[V.int 7]))] at this
        exact this.mono cX
       generalize upd G7 r3 (.lst (zs++[V.int 7]))=G8 at s8 ad8
       refine⟨_,_,_,x,st,c,bd,200,rfl,m1.mono s8,m2.mono s8,m3.mono s8,hxi,hxn,hs.is,hc,by decide,by decide,fun hW'=>absurd hW (by omega),fun _ n' D' q' l' ys' G9 s9 f9 e9 el9 A9=>?_,fun _ bp bc Bk q' r' G9 s9 f9 e9 er9=>?_,fun _ p' cc M=>absurd (eU D M (.inl (by decide))) id⟩
       ·have e:d=.tuple [.str "kept",Gd (aJ x c st n')]:=An.one (.Xw n' D')
        subst e
        refine Sm.of (At.tup e9 (ak.cons (At.str _) (ak.cons (At.lst el9 A9) ak.nil))) (ad8.mono s9) sd (by decide) fun Sw lB=>⟨_,rfl,?_⟩
        rw[bB (by decide)]
        exact last Sw (s8.trans (s9.trans lB)) _ _ _
       ·have er9:G9 r'=some (.lst ((jZ x c st bp bc).map V.int)):=er9
        have e:d=.tuple [.str "broken",wM (jZ x c st bp bc)]:=An.one (.Xy bp bc Bk)
        subst e
        refine Sm.of (At.tup e9 (ak.cons (At.str _) (ak.cons (At.lst er9 (bH _)) ak.nil))) (ad8.mono s9) sd (by decide) fun Sw lB=>⟨_,rfl,?_⟩
        rw[bB (by decide)]
        exact last Sw (s8.trans (s9.trans lB)) _ _ _
      ·walk_at "rd"
       refine⟨trivial,?_⟩
       have Tr:=s5.trans s6
       rcases hf with rfl | ⟨hfn,bp,bc,r5,Bk,ed,e5⟩
       ·rw[bB (by simp)]
        exact hN G6 (aF.refl _)
       ·rw[aL (by simp[hfn])]
        obtain⟨w1,w2⟩:=Vm hxi hxn hc hs.is D.hn Bk
        refine Ix.tup (s6 _ _ ed) (v:=.ref r5) rfl ⟨_,_,_,r5,x,st,c,bd,jZ x c st bp bc,rfl,m1.mono Tr,m2.mono Tr,m3.mono Tr,hx.l,hs.toW,hc.n,s6 _ _ e5,?_,w1,w2,fun G7 Oc=>⟨_,rfl,?_⟩⟩
        ·have h1:=kO (lM (x:=x) (cv:=c) (st:=st) n) n bp
         have h2:=D.hl
         rw[qX D.hn Bk,fP]
         show _+1<=900
         omega
        ·rw[bB (by decide)]
         exact hN G7 Oc
     ·walk_at "rd"
      refine Sm.of ad (ad2.mono cX) sd (by decide) fun G6 s6=>⟨_,rfl,?_⟩
      rw[bB (by decide)]
      have Tr:=s5.trans s6
      refine⟨_,_,_,x,st,c,200,rfl,m1.mono Tr,m2.mono Tr,m3.mono Tr,hxi,hxn,hs.is,hc,by decide,by decide,fun hW'=>absurd hW (by omega),fun _ n' D' l' ys' G7 Oc f7' e7' A7'=>?_,fun _ p' cc M=>absurd (eU D M (.inl (by decide))) id⟩
      cases done_one D'.hn D.hn
      refine Sm.of (At.lst e7' A7') (At.lst ((Tr.trans Oc) _ _ m9) (mA.mono (Tr.trans Oc))) sdE (by decide) fun G8 s8=>⟨_,rfl,?_⟩
      rw[bB (by decide)]
      exact hN G8 (s6.trans (Oc.trans s8))
    ·walk_at "rd"
     refine⟨_,_,_,x,st,c,bd,200,rfl,m1,m2,m3,hxi,hxn,hs.is,hc,by decide,by decide,fun hW'=>absurd hW (by omega),fun _ n' D' q' l' ys' G3 s3 f3 e3 el3 A3=>?_,fun _ bp bc Bk q' r' G3 s3 f3 e3 Wm=>?_,fun _ p' cc M=>absurd (eU D M (.inl (by decide))) id⟩
     ·cases done_one D'.hn D.hn
      refine⟨(by decide),fun p12 G4 f4 s4 e4=>⟨_,_,rfl,?_⟩⟩
      have Qj:=s3.trans s4
      refine⟨_,_,l9,ys,x,st,c,n,bd,rfl,m1.mono Qj,m3.mono Qj,Qj _ _ m9,mA.mono Qj,D,hxi,hs.is,hc,hW,fun _ G5 s5=>⟨trivial,?_⟩,fun bp bc Bk=>absurd (kZ D' Bk) id⟩
      rw[bB (by simp)]
      have Qi:=Qj.trans s5
      have sh:aF G2 (hid l' G5):=fun b o z=>by rw[bV (bN z f3)]; exact Qi _ _ z
      have n12:p12≠l':=fun z=>by rw[z,el3] at f4; cases f4
      refine hN _ _ ((hR _ _).mpr ⟨q',l',p12,.non,.str "kept",.tuple [.str "kept",Gd (aJ x c st n)],ys',rfl,Qi,f3,(s4.trans s5) _ _ e3,(s4.trans s5) _ _ el3,?_,?_,?_,.Xw n D',.inl rfl⟩)
      ·rw[A3.length,bR,D.hn]; omega
      ·exact At.tup ((s4.trans s5) _ _ e3) (ak.cons (At.str _) (ak.cons (At.lst ((s4.trans s5) _ _ el3) (A3.mono (s4.trans s5))) ak.nil))
      ·exact At.tup (by rw[bV n12]; exact s5 _ _ e4) (ak.cons (At.str _) (ak.cons (At.lst (sh _ _ m9) (mA.mono sh)) ak.nil))
     ·have Wm:G3 r'=some (.lst ((jZ x c st bp bc).map V.int)):=Wm
      refine⟨(by decide),fun p12 G4 f4 s4 e4=>⟨_,_,rfl,?_⟩⟩
      have Qj:=s3.trans s4
      refine⟨_,_,l9,ys,x,st,c,n,bd,rfl,m1.mono Qj,m3.mono Qj,Qj _ _ m9,mA.mono Qj,D,hxi,hs.is,hc,hW,fun D2=>absurd (kZ D2 Bk) id,fun bp' bc' Wy q5 G5 s5 e5=>⟨trivial,?_⟩⟩
      obtain⟨hb1,hb2⟩:=Dg Bk Wy
      rw[<- hb1,<- hb2] at e5
      rw[aL (by simp)]
      have Qi:=Qj.trans s5
      have hbn:=(oA D.hn Bk.hp).1
      refine Ix.tup e5 (v:=.int (bp:Nat)) rfl ⟨l9,ys,aJ x c st n,bp,rfl,Qi _ _ m9,mA.mono Qi,by rw[D.hn]; exact hbn,by rw[D.hn]; omega,lM n,fun r6 G6 f6 s6 e6=>?_⟩
      rw[D.hn] at e6
      have hpl:(bz (aJ x c st n) n bp).length<=900:=oG (kO (lM (x:=x) (cv:=c) (st:=st) n) n bp) hnl
      refine Ix.tup (s6 _ _ e5) (v:=.int (bc:Nat)) rfl ⟨(by decide),fun p7 G7 f7 Oc e7'=>Ed.of (Oc _ _ e6) e7' (UT (by rw[bR]; show _+1<=1000; omega)) fun p8 G8 f8 s8 e8=>⟨(by decide),fun p9 G9 f9 s9 e9=>?_⟩⟩
      have ZS:=s4.trans (s5.trans (s6.trans (Oc.trans (s8.trans s9))))
      have s29:=s3.trans ZS
      have e8:G8 p8=some (.lst ((jZ x c st bp bc).map V.int)):=by rw[e8,qX D.hn Bk,jC]; rfl
      have n8:p8≠r':=fun z=>by rw[z,(s4.trans (s5.trans (s6.trans Oc))) _ _ Wm] at f8; cases f8
      have n9:p9≠r':=fun z=>by rw[z,(s4.trans (s5.trans (s6.trans (Oc.trans s8)))) _ _ Wm] at f9; cases f9
      refine hN _ _ ((hR _ _).mpr ⟨q',r',p9,.ref q5,.str "broken",.tuple [.str "broken",wM (jZ x c st bp bc)],_,rfl,s29,f3,ZS _ _ e3,ZS _ _ Wm,?_,?_,?_,.Xy bp bc Bk,.inr ⟨by simp,bp,bc,p8,Bk,e9,s9 _ _ e8⟩⟩)
      ·rw[bR,qX D.hn Bk,fP]
       show _+1<=901
       omega
      ·exact At.tup (ZS _ _ e3) (ak.cons (At.str _) (ak.cons (At.lst (ZS _ _ Wm) (bH _)) ak.nil))
      ·exact At.tup (by rw[bV n9]; exact e9) (ak.cons (At.str _) (ak.cons (At.lst (by rw[bV n8]; exact s9 _ _ e8) (bH _)) ak.nil))
   ·intro σ G0 hh
    obtain⟨o8,o9,rn,zR,MN,MK,rfl,x0,N0,hN0,t0⟩:=(hPv _ _ _).mp hh
    exact fin _ ((SX.of s7).trans x0) _ _ _ _ _ _ _ _ _ _ _ _
  ·refine Gb (n:=0) (fun R hR=>by walk_at "rd"; exact⟨trivial,.inl ⟨by decide,by decide⟩,hR⟩) (by decide) (fun _ σ H'=>H'=H7/\∃o8 o9 rn zR MN MK:Option V,σ=[some (.ref p),some (.ref pc),some (.int (0+(i:Nat))),some (.ref a),some (.ref p4),some (.ref p5),some (.ref p6),some .non,o8,o9,rn,zR,MN,MK]) ⟨rfl,_,_,_,_,_,_,rfl⟩ (fun t σ H' ht=>by omega) ?_
   rintro σ H' ⟨rfl,o8,o9,rn,zR,MN,MK,rfl⟩
   exact fin _ (SX.of s7) _ _ _ _ _ _ _ _ _ _ _ _
 ·rintro σ H2 ⟨o2,o3,o4,o5,o6,o7,o8,o9,rn,zR,MN,MK,rfl,e2⟩
  exact q H2
end
theorem Zk {us:List Value} {n:Nat} (h:us.length=n+1):∃a r,us=a::r/\r.length=n:=by
 cases us with
 | nil=>cases h
 | cons a r=>exact⟨a,r,rfl,Nat.succ.inj h⟩
theorem Vx {us:List Value} (h:us.length=1):∃a,us=[a]:=by
 obtain⟨a,r,rfl,g⟩:=Zk h
 cases L_.mp g
 exact⟨a,rfl⟩
theorem Le {us:List Value} (h:us.length=2):∃a a0,us=[a,a0]:=by
 obtain⟨a,r,rfl,g⟩:=Zk h
 obtain⟨a0,rfl⟩:=Vx g
 exact⟨a,a0,rfl⟩
theorem Dt {us:List Value} (h:us.length=3):∃a a0 a1,us=[a,a0,a1]:=by
 obtain⟨a,r,rfl,g⟩:=Zk h
 obtain⟨a0,a1,rfl⟩:=Le g
 exact⟨a,a0,a1,rfl⟩
theorem S8 {us:List Value} (h:us.length=4):∃a a0 a1 a2,us=[a,a0,a1,a2]:=by
 obtain⟨a,r,rfl,g⟩:=Zk h
 obtain⟨a0,a1,a2,rfl⟩:=Dt g
 exact⟨a,a0,a1,a2,rfl⟩
theorem un5 {us:List Value} (h:us.length=5):∃a a0 a1 a2 a3,us=[a,a0,a1,a2,a3]:=by
 obtain⟨a,r,rfl,g⟩:=Zk h
 obtain⟨a0,a1,a2,a3,rfl⟩:=S8 g
 exact⟨a,a0,a1,a2,a3,rfl⟩
theorem all_mk {l:PySem.W.OpenLaw} {w:World} {K:PySem.W.Frag} {h:Heap} {mg:Str->Option Value} {fa:Addr} (X:K.In h) (G:h.Ns mainGlobals mg) (hfa:mg "law" = some (.ref fa))
  {f0:Addr} (e0:jA K "needed" vm f0)
  {f1:Addr} (e1:jA K "most_ahead" lE f1)
  {f2:Addr} (e2:jA K "lean" Hm f2)
  {f3:Addr} (e3:jA K "lean_triple" jM f3)
  {f4:Addr} (e4:jA K "wish" Hl f4)
  {f5:Addr} (e5:jA K "rule_wish" mO f5)
  {f6:Addr} (e6:jA K "row_says" oZ f6)
  {f7:Addr} (e7:jA K "hands_of" ph f7)
  {f8 T8:Addr} (e8:Wx K "beat" Hn f8 T8 12)
  {f9:Addr} (e9:jA K "since_and_look" gP f9)
  {f10:Addr} (e10:jA K "change_of" mU f10)
  {f11:Addr} (Kw:jA K "with_change" jK f11)
  {f12:Addr} (Oi:jA K "sent_home" mL f12)
  {Wl:Addr} (Kv:jA K "bursts_of" mV Wl)
  {YM:Addr} (Oh:jA K "most_next" mQ YM)
  {f15:Addr} (Og:jA K "spares_left" jL f15)
  {f16 T16:Addr} (Ve:Wx K "led" Qh f16 T16 300)
  {f17 T17:Addr} (e17:Wx K "opened" vh f17 T17 300)
  {f18:Addr} (e18:jA K "walked" vg f18)
  {f19:Addr} (e19:jA K "is_too_wide" jN f19)
  {f20:Addr} (e20:jA K "first_entry" jO f20)
  {f21:Addr} (e21:jA K "comes_next" lG f21)
  {f22:Addr} (e22:jA K "led_to" vo f22)
  {f23:Addr} (e23:jA K "breaks" vD f23)
  {f24:Addr} (e24:jA K "check_room" lH f24)
  {f25:Addr} (e25:jA K "load_to" rK f25)
  {f26:Addr} (e26:jA K "_law_tape" vA f26)
  {f27:Addr} (e27:jA K "_law_draw" vB f27)
  {f28:Addr} (e28:jA K "_law_folded" o_ f28)
  {f29:Addr} (e29:jA K "_law_row" Br f29)
  {f30:Addr} (e30:jA K "_law_small_post" jh f30)
  {f31:Addr} (e31:jA K "_law_small_stand" iI f31)
  {f32:Addr} (e32:jA K "_law_curve" rM f32)
  {f33:Addr} (e33:jA K "_law_row_wish" lF f33)
  {f34:Addr} (e34:jA K "_law_wish" vq f34)
  {f35:Addr} (e35:jA K "_law_beat" vC f35)
  {f36:Addr} (e36:jA K "_law_same" qm f36)
  {f37:Addr} (e37:jA K "_law_told" vy f37)
  {f38:Addr} (e38:jA K "_law_led" Bs f38)
  {f39:Addr} (e39:jA K "_law_first_break" iJ f39)
  {f40:Addr} (e40:jA K "_law_load_to" mR f40)
  {f41:Addr} (e41:jA K "_law_broken_right" gQ f41)
  {f42:Addr} (e42:jA K "_law_bound" rN f42)
  {f43:Addr} (e43:jA K "law" vp f43)
  {bf:Addr} (Ld:PySem.W.nsIn K mainGlobals "TooMany" = some (some (.ref bf)))
  {bu:Addr} (Lb:PySem.W.nsIn K mainGlobals "TooWide" = some (some (.ref bu)))
  (Bb:PySem.W.excIn K bf WQ "ValueError.__new__" = true)
  (Ba:PySem.W.excIn K bu WQ "ValueError.__new__" = true)
  (Bd:PySem.W.exmOne K (.ref bf) (.ref bf)=some true)
  (Bc:PySem.W.exmOne K (.ref bu) (.ref bu)=some true)
  (SJ:Nb K "tuple")
  (Y_:Nb K "max")
  (Y9:Nb K "min")
  (Ds:Nb K "enumerate")
  (Y5:Nb K "zip")
  (Y6:Nb K "sum")
  (WD:Nb K "list")
  (GQ:Nb K "reversed")
  (SM:Nb K "range")
  (Za:Nb K "len")
  (Y8:Nb K "set")
  (Ze:Nb K "abs")
  (Zb:Nb K "int")
  (A_:Nb K "isinstance")
  (Y7:Nb K "str")
  (Zd:Nb K "all")
  (WK:Nb K "bool")
  (Zc:Nb K "any")
  {O3 O2 O1:Tok} (Us:NT K "WHATS" [.str "come" O3,.str "done" O2,.str "wait" O1])
  (XJ:yJ K "OVER" "over")
  (Ut:yJ K "UNDER" "under")
  (XN:yJ K "EACH" "each")
  (Ck:Ni K "MOST_HANDS" 12)
  (wC:Ni K "TRIPLES_SEEN" 3)
  (Uu:Ni K "LIMIT" 300)
  (Fw:Ni K "MOST_COME" 23)
  (XM:yJ K "KEPT" "kept")
  (QX:yJ K "BROKEN" "broken") :
  ∃fd:FuncData,(∀(s:Shared) (v:Value),BindsTo s fd ⟨[v],[]⟩ [("_law_script",v)])/\∀base:Heap,K.In base->base.Ns mainGlobals mg->bQ l.prog w K mg base iH 11 fa fd ["_law_script"] (Jl K):=by
 obtain⟨h0⟩:=e0.has X G (ps:=["post"]) fun _ _ _ _ _ _ us hl=>by obtain⟨_,rfl⟩:=Vx hl; rfl
 obtain⟨h1⟩:=e1.has X G (ps:=["rows","what"]) fun _ _ _ _ _ _ us hl=>by obtain⟨_,_,rfl⟩:=Le hl; rfl
 obtain⟨h2⟩:=e2.has X G (ps:=["post","stand"]) fun _ _ _ _ _ _ us hl=>by obtain⟨_,_,rfl⟩:=Le hl; rfl
 obtain⟨h3⟩:=e3.has X G (ps:=["triple","place","wants"]) fun _ _ _ _ _ _ us hl=>by obtain⟨_,_,_,rfl⟩:=Dt hl; rfl
 obtain⟨h4⟩:=e4.has X G (ps:=["post","hands","newest"]) fun _ _ _ _ _ _ us hl=>by obtain⟨_,_,_,rfl⟩:=Dt hl; rfl
 obtain⟨h5⟩:=e5.has X G (ps:=["rule","hands","newest"]) fun _ _ _ _ _ _ us hl=>by obtain⟨_,_,_,rfl⟩:=Dt hl; rfl
 obtain⟨h6⟩:=e6.has X G (ps:=["row","hands","newest"]) fun _ _ _ _ _ _ us hl=>by obtain⟨_,_,_,rfl⟩:=Dt hl; rfl
 obtain⟨h7⟩:=e7.has X G (ps:=["stand"]) fun _ _ _ _ _ _ us hl=>by obtain⟨_,rfl⟩:=Vx hl; rfl
 obtain⟨h8⟩:=e8.has X G (ps:=["post","stand","come","free"]) (fun _ _ _ _ _ _ _ us hl=>by
  rw[lZ] at hl
  obtain⟨_,_,_,_,rfl⟩:=S8 hl
  exact⟨_,rfl,rfl⟩) fun _ _ _ _ _ _ _ us hl=>by
  obtain⟨_,_,_,rfl⟩:=Dt (Nat.succ.inj ((fP).symm.trans hl))
  exact⟨_,rfl,rfl⟩
 obtain⟨h9⟩:=e9.has X G (ps:=["post","since","rest"]) fun _ _ _ _ _ _ us hl=>by obtain⟨_,_,_,rfl⟩:=Dt hl; rfl
 obtain⟨h10⟩:=e10.has X G (ps:=["post","hands","newest","free"]) fun _ _ _ _ _ _ us hl=>by obtain⟨_,_,_,_,rfl⟩:=S8 hl; rfl
 obtain⟨h11⟩:=Kw.has X G (ps:=["post","stand","change"]) fun _ _ _ _ _ _ us hl=>by obtain⟨_,_,_,rfl⟩:=Dt hl; rfl
 obtain⟨h12⟩:=Oi.has X G (ps:=["ready","called","many"]) fun _ _ _ _ _ _ us hl=>by obtain⟨_,_,_,rfl⟩:=Dt hl; rfl
 obtain⟨h13⟩:=Kv.has X G (ps:=["curve"]) fun _ _ _ _ _ _ us hl=>by obtain⟨_,rfl⟩:=Vx hl; rfl
 obtain⟨h14⟩:=Oh.has X G (ps:=["curve","spare"]) fun _ _ _ _ _ _ us hl=>by obtain⟨_,_,rfl⟩:=Le hl; rfl
 obtain⟨h15⟩:=Og.has X G (ps:=["curve","spare","come"]) fun _ _ _ _ _ _ us hl=>by obtain⟨_,_,_,rfl⟩:=Dt hl; rfl
 obtain⟨h16⟩:=Ve.has X G (ps:=["post","stand","curve","limit"]) (fun _ _ _ _ _ _ _ us hl=>by
  rw[lZ] at hl
  obtain⟨_,_,_,_,rfl⟩:=S8 hl
  exact⟨_,rfl,rfl⟩) fun _ _ _ _ _ _ _ us hl=>by
  obtain⟨_,_,_,rfl⟩:=Dt (Nat.succ.inj ((fP).symm.trans hl))
  exact⟨_,rfl,rfl⟩
 obtain⟨h17⟩:=e17.has X G (ps:=["post","stand","curve","bound","limit"]) (fun _ _ _ _ _ _ _ us hl=>by
  rw[lZ] at hl
  obtain⟨_,_,_,_,_,rfl⟩:=un5 hl
  exact⟨_,rfl,rfl⟩) fun _ _ _ _ _ _ _ us hl=>by
  obtain⟨_,_,_,_,rfl⟩:=S8 (Nat.succ.inj ((fP).symm.trans hl))
  exact⟨_,rfl,rfl⟩
 obtain⟨h18⟩:=e18.has X G (ps:=["post","stand","curve","bound","limit"]) fun _ _ _ _ _ _ us hl=>by obtain⟨_,_,_,_,_,rfl⟩:=un5 hl; rfl
 obtain⟨h19⟩:=e19.has X G (ps:=["curve"]) fun _ _ _ _ _ _ us hl=>by obtain⟨_,rfl⟩:=Vx hl; rfl
 obtain⟨h20⟩:=e20.has X G (ps:=["post","stand","curve"]) fun _ _ _ _ _ _ us hl=>by obtain⟨_,_,_,rfl⟩:=Dt hl; rfl
 obtain⟨h21⟩:=e21.has X G (ps:=["curve","entry"]) fun _ _ _ _ _ _ us hl=>by obtain⟨_,_,rfl⟩:=Le hl; rfl
 obtain⟨h22⟩:=e22.has X G (ps:=["post","curve","entry","come"]) fun _ _ _ _ _ _ us hl=>by obtain⟨_,_,_,_,rfl⟩:=S8 hl; rfl
 obtain⟨h23⟩:=e23.has X G (ps:=["bound","behind","away"]) fun _ _ _ _ _ _ us hl=>by obtain⟨_,_,_,rfl⟩:=Dt hl; rfl
 obtain⟨h24⟩:=e24.has X G (ps:=["entries","limit"]) fun _ _ _ _ _ _ us hl=>by obtain⟨_,_,rfl⟩:=Le hl; rfl
 obtain⟨h25⟩:=e25.has X G (ps:=["entries","place"]) fun _ _ _ _ _ _ us hl=>by obtain⟨_,_,rfl⟩:=Le hl; rfl
 obtain⟨h26⟩:=e26.has X G (ps:=["_law_script","_law_k"]) fun _ _ _ _ _ _ us hl=>by obtain⟨_,_,rfl⟩:=Le hl; rfl
 obtain⟨h27⟩:=e27.has X G (ps:=["_law_tape_here","_law_many"]) fun _ _ _ _ _ _ us hl=>by obtain⟨_,_,rfl⟩:=Le hl; rfl
 obtain⟨h28⟩:=e28.has X G (ps:=["_law_script","_law_many"]) fun _ _ _ _ _ _ us hl=>by obtain⟨_,_,rfl⟩:=Le hl; rfl
 obtain⟨h29⟩:=e29.has X G (ps:=["_law_tape_here"]) fun _ _ _ _ _ _ us hl=>by obtain⟨_,rfl⟩:=Vx hl; rfl
 obtain⟨h30⟩:=e30.has X G (ps:=["_law_tape_here"]) fun _ _ _ _ _ _ us hl=>by obtain⟨_,rfl⟩:=Vx hl; rfl
 obtain⟨h31⟩:=e31.has X G (ps:=["_law_tape_here","_law_post"]) fun _ _ _ _ _ _ us hl=>by obtain⟨_,_,rfl⟩:=Le hl; rfl
 obtain⟨h32⟩:=e32.has X G (ps:=["_law_tape_here"]) fun _ _ _ _ _ _ us hl=>by obtain⟨_,rfl⟩:=Vx hl; rfl
 obtain⟨h33⟩:=e33.has X G (ps:=["_law_row_here","_law_hands","_law_newest"]) fun _ _ _ _ _ _ us hl=>by obtain⟨_,_,_,rfl⟩:=Dt hl; rfl
 obtain⟨h34⟩:=e34.has X G (ps:=["_law_post","_law_hands","_law_newest"]) fun _ _ _ _ _ _ us hl=>by obtain⟨_,_,_,rfl⟩:=Dt hl; rfl
 obtain⟨h35⟩:=e35.has X G (ps:=["_law_post","_law_stand","_law_come"]) fun _ _ _ _ _ _ us hl=>by obtain⟨_,_,_,rfl⟩:=Dt hl; rfl
 obtain⟨GJ⟩:=e36.has X G (ps:=["_law_found","_law_due"]) fun _ _ _ _ _ _ us hl=>by obtain⟨_,_,rfl⟩:=Le hl; rfl
 obtain⟨h37⟩:=e37.has X G (ps:=["_law_call","_law_post","_law_stand","_law_curve_here"]) fun _ _ _ _ _ _ us hl=>by obtain⟨_,_,_,_,rfl⟩:=S8 hl; rfl
 obtain⟨h38⟩:=e38.has X G (ps:=["_law_post","_law_stand","_law_curve_here"]) fun _ _ _ _ _ _ us hl=>by obtain⟨_,_,_,rfl⟩:=Dt hl; rfl
 obtain⟨h39⟩:=e39.has X G (ps:=["_law_post","_law_curve_here","_law_entries","_law_bound_here"]) fun _ _ _ _ _ _ us hl=>by obtain⟨_,_,_,_,rfl⟩:=S8 hl; rfl
 obtain⟨h40⟩:=e40.has X G (ps:=["_law_entries","_law_place"]) fun _ _ _ _ _ _ us hl=>by obtain⟨_,_,rfl⟩:=Le hl; rfl
 obtain⟨h41⟩:=e41.has X G (ps:=["_law_post","_law_stand","_law_curve_here","_law_bound_here","_law_load"]) fun _ _ _ _ _ _ us hl=>by obtain⟨_,_,_,_,_,rfl⟩:=un5 hl; rfl
 obtain⟨h42⟩:=e42.has X G (ps:=["_law_tape_here","_law_post","_law_stand","_law_entries"]) fun _ _ _ _ _ _ us hl=>by obtain⟨_,_,_,_,rfl⟩:=S8 hl; rfl
 have B:Bi mg:=⟨PySem.W.mg_none_of X G SJ,PySem.W.mg_none_of X G Y_,PySem.W.mg_none_of X G Y9,PySem.W.mg_none_of X G Ds,PySem.W.mg_none_of X G Y5,PySem.W.mg_none_of X G Y6,PySem.W.mg_none_of X G WD,PySem.W.mg_none_of X G GQ,PySem.W.mg_none_of X G SM,PySem.W.mg_none_of X G Za,PySem.W.mg_none_of X G Y8,PySem.W.mg_none_of X G Ze,PySem.W.mg_none_of X G Zb,PySem.W.mg_none_of X G A_,PySem.W.mg_none_of X G Y7,PySem.W.mg_none_of X G Zd,PySem.W.mg_none_of X G WK,PySem.W.mg_none_of X G Zc⟩
 have O:Co K mg:=⟨(let ⟨a,n,_,z,m⟩:=Us; ⟨a,PySem.W.mg_of X G z,⟨_,m,rfl,rfl⟩,fun H=>.inr ⟨_,_,n,m,rfl,rfl,(by show 3<=sizeLine; decide),(.cons ⟨_,rfl⟩ (.cons ⟨_,rfl⟩ (.cons ⟨_,rfl⟩ .nil)))⟩⟩),XJ.gs X G,Ut.gs X G,XN.gs X G,Ck.gi X G,wC.gi X G,Uu.gi X G,Fw.gi X G,XM.gs X G,QX.gs X G⟩
 have Z:ZL K mg bf bu:=⟨PySem.W.mg_of X G Ld,PySem.W.mg_of X G Lb,Bb,Ba,Bd,Bc⟩
 obtain⟨oc,od,an,sl,kV,dc,pm,cd,ct,ea,el,ec,ek0⟩:=e43
 have e:=hfa.symm.trans (PySem.W.mg_of X G ea)
 cases e
 refine⟨PySem.W.fnOf "law" "law" (eN vp) (dD vp) (aH vp) .none kV dc pm an cd ct,fun s v=>.of_eq rfl,fun base _ _=>?_⟩
 have F:=Rx (st:=vp) el ec ek0
 have yG:=h28.ct l.prog w base (Fl (k:=0) h28.F B)
 have Gp:=h26.ct l.prog w base (Mw (k:=0) h26.F B)
 have iG:=h27.ct l.prog w base (Mx (k:=0) h27.F B)
 have IK:=h29.ct l.prog w base (QR (k:=1) h29.F B (iG.mono (by decide)))
 have qT:=h30.ct l.prog w base (uh (k:=2) h30.F B (iG.mono (by decide)) (IK.mono (by decide)))
 have pP:=h31.ct l.prog w base (su (k:=1) h31.F B (iG.mono (by decide)))
 have De:=h32.ct l.prog w base (HQ (k:=1) h32.F B (iG.mono (by decide)))
 have gb:=h14.ct l.prog w base (Ca (k:=0) h14.F B)
 have gf:=h13.ct l.prog w base (Cg (k:=0) h13.F B)
 have jX:=h19.ct l.prog w base (wz (k:=1) h19.F O (gb.mono (by decide)) (gf.mono (by decide)))
 have lQ:=h1.ct l.prog w base (yh (k:=0) h1.F B)
 have xF:=h0.ct l.prog w base (Ms (k:=1) h0.F B O (lQ.mono (by decide)))
 have jW:=h3.ct l.prog w base (wy (k:=0) h3.F B)
 have sY:=h2.ct l.prog w base (Um (k:=2) h2.F B (xF.mono (by decide)) (jW.mono (by decide)))
 have jY:=h20.ct l.prog w base (wA (k:=3) h20.F (sY.mono (by decide)) (gf.mono (by decide)))
 have lR:=h21.ct l.prog w base (ym (k:=1) h21.F B (gb.mono (by decide)))
 have ik:=h9.ct l.prog w base (qF (k:=0) h9.F)
 have pN:=h6.ct l.prog w base (Fj (k:=0) h6.F B O)
 have nF:=h5.ct l.prog w base (B_ (k:=1) h5.F (pN.mono (by decide)))
 have Iw:=h4.ct l.prog w base (Ul (k:=2) h4.F B (nF.mono (by decide)))
 have nH:=h10.ct l.prog w base (Ce (k:=3) h10.F B (Iw.mono (by decide)))
 have pO:=h7.ct l.prog w base (Fo (k:=0) h7.F B)
 have nD:=h12.ct l.prog w base (BZ (k:=0) h12.F B)
 have jU:=h11.ct l.prog w base (wg (k:=1) h11.F B (nD.mono (by decide)))
 have tu:=h8.ct l.prog w base (Uo (k:=4) h8.F B O (ik.mono (by decide)) (nH.mono (by decide)) (pO.mono (by decide)) (jU.mono (by decide)))
 have jV:=h15.ct l.prog w base (wu (k:=0) h15.F B)
 have xG:=h22.ct l.prog w base (Mt (k:=5) h22.F (sY.mono (by decide)) (tu.mono (by decide)) (jV.mono (by decide)))
 have xJ:=h23.ct l.prog w base (Mz (k:=0) h23.F)
 have lU:=h24.ctE l.prog w base (yp (k:=0) h24.F B Z)
 have sX:=h25.ct l.prog w base (HJ (k:=0) h25.F)
 have lA:=h18.ctE l.prog w base (Mq (k:=6) h18.F B O Z (jX.mono (by decide)) (jY.mono (by decide)) (lR.mono (by decide)) (xG.mono (by decide)) (xJ.mono (by decide)) (lU.mono (by decide)) (sX.mono (by decide)))
 have Am:=h16.ctF l.prog w base (Xz (k:=7) h16.F (lA.mono (by decide)))
 have xM:=h38.ctE l.prog w base (QS (k:=8) h38.F (Am.mono (by decide)))
 have Gn:=h37.ct l.prog w base (Mv (k:=9) h37.F B Z (xM.mono (by decide)))
 have Df:=h42.ct l.prog w base (HR (k:=1) h42.F B (iG.mono (by decide)))
 have qQ:=h17.ctF l.prog w base (Mr (k:=7) h17.F O (lA.mono (by decide)))
 have pQ:=h39.ct l.prog w base (sy (k:=5) h39.F B (tu.mono (by decide)))
 have xK:=h40.ct l.prog w base (Cd (k:=0) h40.F B)
 have uw:=h33.ct l.prog w base (yj (k:=0) h33.F B)
 have Gm:=h34.ct l.prog w base (Mu (k:=1) h34.F B (uw.mono (by decide)))
 have Gq:=h35.ct l.prog w base (My (k:=2) h35.F B (Gm.mono (by decide)))
 have oK:=h41.ct l.prog w base (qG (k:=3) h41.F B (Gq.mono (by decide)))
 have yF:=GJ.ct l.prog w base (HN (k:=0) GJ.F)
 have yE:=GJ.ct l.prog w base (g_ (k:=1) 0 GJ.F B (yF.mono (by decide)))
 have yD:=GJ.ct l.prog w base (g_ (k:=2) 1 GJ.F B (yE.mono (by decide)))
 have yC:=GJ.ct l.prog w base (g_ (k:=3) 2 GJ.F B (yD.mono (by decide)))
 have yz:=GJ.ct l.prog w base (g_ (k:=4) 3 GJ.F B (yC.mono (by decide)))
 have yx:=GJ.ct l.prog w base (g_ (k:=5) 4 GJ.F B (yz.mono (by decide)))
 have yw:=GJ.ct l.prog w base (g_ (k:=6) 5 GJ.F B (yx.mono (by decide)))
 have yt:=GJ.ct l.prog w base (g_ (k:=7) 6 GJ.F B (yw.mono (by decide)))
 exact XC (k:=10) F B (yG.mono (by decide)) (Gp.mono (by decide)) (qT.mono (by decide)) (pP.mono (by decide)) (De.mono (by decide)) (xM.mono (by decide)) (Gn.mono (by decide)) (Df.mono (by decide)) (qQ.mono (by decide)) (Am.mono (by decide)) (pQ.mono (by decide)) (xK.mono (by decide)) (oK.mono (by decide)) (yt.mono (by decide))
theorem walk {l:PySem.W.OpenLaw} {q:Program} {loose:List Str} {XP:(Str->Option Value)->Heap->Prop} {YP:World->Heap->Prop} {d:DefRec} {K:Params->PySem.W.Frag} (hn:l.most=some 63) (hdf:d.params.defaults=[])
  (hY:∀(w:World) (h:Heap),YP w h->(K w.params).In h)
  (F:∀(w:World) (mg:Str->Option Value) (fa:Addr) (h:Heap),(K w.params).In h->h.Ns mainGlobals mg->mg d.name=some (.ref fa) ->
   ∃fd:FuncData,(∀(s:Shared) (u:Value),BindsTo s fd ⟨[u],[]⟩ [("_law_script",u)])/\∀base:Heap,(K w.params).In base->base.Ns mainGlobals mg->bQ l.prog w (K w.params) mg base iH 11 fa fd ["_law_script"] (Jl (K w.params))) :
  PySem.W.WalkO q loose XP YP l.row.toRowW d [] (fun f vs=>PySem.call f vs):=
 L2.S7 (n:=63) (k:=11) (x:="_law_script") (CX:=fun _=>iH) (sp:=fun w=>Jl (K w.params)) hn (by decide) hdf ⟨rfl,by decide,by decide,rfl⟩ hY F (fun _ _ a ns hl hO hS=>⟨a,ns,rfl,Ss.of hS hO,hl,fun _=>rfl⟩) fun _ _ _ _ _ z=>z
end K45
structure PySem.W.Fast:Prop where(tw15219204595102203587 tw10615418212041939233 tw12699315161415592500 tw15706473234269513192 tw6390223658566887203 tw3018204351833338033 tw11074344490146116527 tw4416146634122520403 tw14061860698689453721 tw7102190875926030620 tw7804450253250626034 tw7731769543478777320 tw9330000155853755696 tw17737573262581326017 tw3788574966951338558 tw8645888124551773760 tw132165620538830877 tw17673471735076056771 tw13094992551395044242 tw3100470105388484475 tw6197717826743826345 tw6799816136930025230 tw17704077178464100040 tw10370504410291365985 tw18043529437715526225 tw8043996179672521106 tw15643001705516445236 tw968170499455880861 tw11302786430517556711 tw6778940373169958636 tw16284286593243999149 tw883059598689415540 tw2386403153847470258 tw14447196672581277305 tw16228349406100341714 tw2932754186797203347 tw15491977399202751444 tw6524259238711053579 tw18270222547533603805 tw5817182663117600088 tw5120198910604378781 tw12610972224978436428 tw4703797956295248010 tw9047902523044579410 tw18278228633268537867 tw421419462419719543 tw11775560003555040759 tw11660694590381601042 tw1017708314302945300 tw11446513681280515897 tw14595338637805951310 tw13551650731426710671 tw8772195039382330096 tw12181368483897744459 tw10299013204784289360 tw2692019226957825168 tw3087855901225936487 tw170703815560862070 tw18065977706044040651 tw7991880111805044677 tw4968372131038812052 tw17758640408662083799 tw11055190727162577745 tw18138097917275069904 tw11062449854727034505 tw12326813405578618808 tw7867473876007526447 tw8535844089497918722 tw15851155493456288413 tw5154685735986260019 tw13186247464763311485 tw11828474348359821686 tw8061919637658705691 tw110465910336015393 tw6160255277133445016 tw15371631927310155511 tw6744917413360766109 tw634271626079241465 tw10717579573876983365 tw17831043511862871306 tw13940481782596321321 tw724009099410911200 tw6517733528630528451 tw9746006441281054036 tw16472168879161260754 tw3213945761264734454 tw1752829615821867868 tw17904677533939796906 tw11529950325009910476 tw12886944415904549127 tw10208429959189341764 tw16994366256554307978 tw9962039439805001942 tw12718511102817195381 tw1706737208511212420 tw10383960161773129247 tw5942095327332301636 tw13191636948267190461 tw11090506379696556493 tw8012846846662539913 tw14232018816799537737 tw14838293760088005351 tw17629741927165519946 tw5605953395097592326 tw17251812393369308264 tw17148666848078103337 tw3546197823942375513 tw14451095106985769410 tw9581620844154840544 tw1925910510841508537 tw3340854306822620956 tw1385328863105992974 tw12183623126574772643 tw13705949561636052241 tw16430523348425598129 tw5488028034875815805 tw8613394032717696720 tw15292985642184222732 tw10965716723305388267 tw15816898032085551898 tw17311634208553557216 tw11649014418250605118 tw4278696986749670275 tw9759615081935751975 tw13437979773532725984 tw5930482729055754357 tw14096400627018132767 tw12398362623363174937 tw8989638860346099947 tw12176774528650138806 tw9213320061227148618 tw15612291832813111277 tw16717716190697087699 tw8698389976596364142 tw10698843188268707077 tw10687256898995255347 tw4035112967421193192 tw12601592350969195416 tw18370441726945795329 tw15506499033676012186 tw11736809224382514671 tw12371462445735242336 tw2483034929672680100 tw5154038166637615315 tw14054901812897003432 tw4189934149308915297 tw8126925598217561780 tw3028465702121759571 tw12757936923827529976 tw3971601947791388660 tw7511775483672140898 tw5813634059829833816 tw32530452020375965 tw8928742952028224125 tw10951310157282980860 tw13144002407732993837 tw15734314881156361654 tw5837797853882428253 tw8263318874389197484 tw4259759233579481871 tw2246762001050702525 tw16436617995013107418 tw16066030225426672145 tw6511151646842657772 tw15676553676060234784 tw7093541294644273584 tw8749772222295042371 tw12506517379534837421 tw127310432842825928 tw11765346443397493522 tw16726247390570114280 tw11176812154928986377 tw6263927403713171479 tw12062859651547854272 tw2652457196889357644 tw14385229967790322868 tw11968480488337174469 tw1646572555926628719 tw133978048600063217 tw5440540690152152532 tw886598003551296773 tw6841833552339543797 tw8459629438717406257 tw16170587464077949184 tw15566459951153558883 tw7480316712502387045 tw13187393444545122854 tw8778121862269646487 tw15502566191488913794 tw7755281878868963771 tw2805850854742835249 tw1557504139670074646 tw15755573760067978519 tw5529218775629551703 tw13381456840499049544 tw3832513807971060444 tw12761165189534006166 tw12264713049440278137 tw10873906546111698766 tw15953795936562507473 tw13918974783108360649 tw3812612729108660609 tw5386539080182775486 tw14789737745488684773 tw3753230181406987154 tw16096440018802513158 tw3146423898213841353 tw13504243070840023639 tw858549532205756294 tw617890407813915556 tw2132503172106356577 tw16668340034183542459 tw307063710275909671 tw18429530934115446386 tw4755997192297149591 tw8902109970067425128 tw5267747308010215911 tw1411130901091905535 tw18051137440706367820 tw1930996139042492935 tw9905084361026725423 tw9658471064557960555 tw8865387282299115780 tw3058151170636067433 tw5484371242394018225 tw2160351569909513405 tw12108446410345486771 tw11980723401871658408 tw10386265513421442148 tw3188244563936273315 tw12613214645100262791 tw5988221448056612520 tw14128078053600816698 tw10721908681638806149 tw9701404555127463387 tw867656362763213327 tw6063354210511739472 tw8745219127127401339 tw16840994049657283421 tw8043432748862322761 tw5122586466939002090 tw3681945066832432080 tw2592840536111017984 tw11832057028385542216 tw7533496184999404282 tw8843400739551309867 tw12718805781671076533 tw11225242553393873966 tw17679809167046132692 tw11115739680073833873 tw15257007387430375812 tw6439201824232256631 tw13738613937434732977 tw6877991513182696526 tw1533410985425520626 tw17492129929918074074 tw15250462379470135882 tw174919858991035577 tw17316312323397410705 tw15732039057393180466 tw6290999044349624362 tw17273422986962235128 tw8956053336362098809 tw8093896868444133196 tw17769263599665213487 tw17538467254720583023 tw8988744925798716337 tw15275896361389889688 tw11362668137676981680 tw5712196407681117344 tw6238926508256845501 tw17374292115552676944 tw5216288786615507969 tw7159373395980011829 tw14932174776918497686 tw4334201113159331692 tw8329282063134400178 tw10821032155190510719 tw7572089282528375138 tw7336698914980192358 tw17413574703794569610 tw3989467376108587570 tw2256938295686517983 tw7362484119131122857 tw7087186493552991112 tw16936829538620988295 tw4286769005148957472 tw14153204084198414945 tw2222066107327252835 tw10682480547414434021 tw6091300919092757932 tw14634718293361470289 tw15837941606785532439 tw6300054137150121707 tw17534909101018577962 tw15703238194395852168 tw2328840499962664785 tw5152431977089074310 tw1782873245825643333 tw9740731597530367082 tw5655217354022645579 tw16257092217152427324 tw12559196058710877639 tw11602728789424663581 tw1033946186031124911 tw5494860090000871408 tw15135219568892378715 tw5698395597696331480:True)
open PySem PySem.W PyProof.Rows
local macro_rules | `(tactic| walk_at "fd")=>`(tactic| (refine' L2.Wx.mk ?a ?b ?c ?d ?e; (case a=>k_is); (case b=>k_is); (case c=>k_is); (case d=>k_is); (case e=>k_is)))
local macro_rules | `(tactic| walk_at "fn")=>`(tactic| (refine' L2.jA.mk ?a ?b ?c ?d; (case a=>k_is); (case b=>k_is); (case c=>k_is); (case d=>k_is)))
local macro_rules | `(tactic| walk_at "nb")=>`(tactic| (unfold L2.Nb; k_is))
local macro_rules | `(tactic| walk_at "ni")=>`(tactic| (refine' L2.Ni.mk ?a; (case a=>k_is)))
local macro_rules | `(tactic| walk_at "ns")=>`(tactic| (refine' L2.yJ.mk ?a; (case a=>k_is)))
local macro_rules | `(tactic| walk_at "nt")=>`(tactic| (refine' L2.NT.mk ?a ?b; (case a=>k_is); (case b=>k_is)))
set_option maxRecDepth 100000 in
set_option maxHeartbeats 0 in
theorem PySem.Challenge.cw_waithands_k45_kept_or_broken_holds : PySem.Challenge.rw_waithands_k45_kept_or_broken.Holds := by
 w_on; o_law; k_head; (case hw=>w_witness2)
 k_fill
 refine K45.walk (l:=PySem.Challenge.rw_waithands_k45_kept_or_broken) rfl rfl (fun w h Y=>PySem.W.kIn_of Y) ?F
 case F=>
  intro w mg fa h KX G hmg
  refine' K45.all_mk KX G hmg ?e0 ?e1 ?e2 ?e3 ?e4 ?e5 ?e6 ?e7 ?e8 ?e9 ?e10 ?Kw ?Oi ?Kv ?Oh ?Og ?Ve ?e17 ?e18 ?e19 ?e20 ?e21 ?e22 ?e23 ?e24 ?e25 ?e26 ?e27 ?e28 ?e29 ?e30 ?e31 ?e32 ?e33 ?e34 ?e35 ?e36 ?e37 ?e38 ?e39 ?e40 ?e41 ?e42 ?e43 ?e44 ?e45 ?e46 ?e47 ?e48 ?e49 ?e50 ?e51 ?e52 ?e53 ?e54 ?e55 ?e56 ?e57 ?e58 ?e59 ?e60 ?e61 ?e62 ?e63 ?e64 ?e65 ?e66 ?e67 ?e68 ?e69 ?e70 ?e71 ?e72 ?e73 ?e74 ?e75 ?e76 ?e77
  case e0 | e1 | e2 | e3 | e4 | e5 | e6 | e7=>walk_at "fn"
  case e8=>walk_at "fd"
  case e9 | e10 | Kw | Oi | Kv | Oh | Og=>walk_at "fn"
  case Ve | e17=>walk_at "fd"
  case e18 | e19 | e20 | e21 | e22 | e23 | e24 | e25 | e26 | e27 | e28 | e29 | e30 | e31 | e32 | e33 | e34 | e35 | e36 | e37 | e38 | e39 | e40 | e41 | e42 | e43=>walk_at "fn"
  case e44 | e45=>k_is
  case e46 | e47=>k_exc
  case e48 | e49=>kts_exm
  case e50 | e51 | e52 | e53 | e54 | e55 | e56 | e57 | e58 | e59 | e60 | e61 | e62 | e63 | e64 | e65 | e66 | e67=>walk_at "nb"
  case e68=>walk_at "nt"
  case e69 | e70 | e71=>walk_at "ns"
  case e72 | e73 | e74 | e75=>walk_at "ni"
  case e76 | e77=>walk_at "ns"

import PyProof.Rows.All
import Wide.All
import OpenK.AllK
import Wide.FinOn
import Lean
import PyProof.EqAt
import PyProof.EqKinds
import PyProof.TupleCall
import PyProof.P3In
import PyProof.NeData
import KE.KMinKey
import PyProof.Rows.CallKwBuiltin
import PyProof.LayNew
import PyProof.EnumFor
import PyProof.EnumMake
import PyProof.EnumStmt
import KE.KRevIter
import KE.KRevSl
import PyProof.StationsW
import PyProof.RulesAs
import KE.KTryMore
import PyProof.Rows.TopTwo
import PyProof.NsDelKeeps
import PyProof.ExcArgsOwn
import KE.KIsAll
import PyProof.AutoListH
import PyProof.SetRoads
import PyProof.SetNew
import PyProof.ListRange
import PyProof.Rows.TupDisplay
import PyProof.Draws
import PyProof.ZipIter
import PyProof.TupleIter
import PyProof.AttrMissSeq
import KE.KDictOf
import PySem.Challenge.RW_waithands_k84_whole_loads_walked_in_entr
set_option Elab.async false
set_option linter.all false
set_option maxRecDepth 100000
section
open PySem PySem.Spec PyProof.Rows
abbrev aN:=@wpAny_bind
abbrev bR:=@List.length_map
abbrev eV:=@List.getElem?_eq_getElem
abbrev iB:=@List.getD_eq_getElem?_getD
abbrev gb:=@Heap.get?_push_of_some
abbrev bK:=@wpAny_pure
abbrev gD:=@List.length_append
abbrev iK:=@lookup_relabel_local
abbrev g8:=@List.getElem?_map
abbrev cW:=@Nat.le_refl
abbrev aK:=@if_neg
abbrev fK:=@List.getElem?_eq_some_iff
abbrev aM:=@if_pos
abbrev b8:=@List.mem_cons
abbrev dX:=@Heap.get?_push_size
abbrev b_:=@Heap.lt_size
abbrev fj:=@List.mem_singleton
abbrev ir:=@List.mem_append_right
abbrev fJ:=@List.size_toArray
abbrev il:=@List.mem_cons_of_mem
abbrev fH:=@decide_eq_false
abbrev jW:=@List.mem_of_getElem?
abbrev jo:=@List.mem_cons_self
abbrev jn:=@Bool.false_eq_true
abbrev jV:=@Nat.lt_of_lt_of_le
abbrev nY:=@Option.map_eq_some_iff
abbrev lQ:=@Array.length_toList
abbrev iC:=@decide_eq_true
abbrev jm:=@List.map_append
abbrev e_:=@Nat.zero_le
abbrev gk:=@Nat.ne_of_lt
abbrev mO:=@Bool.false_ne_true
abbrev g_:=@List.mem_map
abbrev iz:=@Nat.le_of_lt
abbrev fV:=@wpAny_mono
abbrev sW:=@Heap.get?_update_other
abbrev xf:=@Array.getElem?_eq_some_iff
abbrev nW:=@List.length_take
abbrev nU:=@List.length_cons
abbrev mL:=@List.append_nil
abbrev iZ:=@wpAny_field
abbrev kW:=@List.map_cons
abbrev zO:=@List.getElem?_append_right
abbrev mK:=@Heap.size_push
abbrev qd:=@List.not_mem_nil
abbrev oV:=@List.mem_append
abbrev q_:=@wpAny_newObj_type
abbrev w6:=@Heap.get?_update_self
abbrev oU:=@wpAny_seqItems
abbrev qZ:=@List.lookup_cons
abbrev Cw:=@List.getElem?_append_left
abbrev Cu:=@List.drop_eq_getElem_cons
abbrev Cr:=@Array.getElem?_eq_getElem
abbrev uW:=@wpAny_Call_Name_kw
abbrev oO:=@wpAny_holding
abbrev Cq:=@Option.isSome_iff_exists
abbrev wZ:=@List.length_zipWith
abbrev uV:=@of_decide_eq_true
abbrev nR:=@Nat.le_trans
abbrev uU:=@Int.toNat_natCast
abbrev Cp:=@List.getElem?_cons_succ
abbrev uT:=@wpAny_call_entry
abbrev Cm:=@List.mem_iff_getElem?
abbrev Ck:=@List.length_replicate
abbrev Cj:=@Array.getElem?_toList
abbrev jl:=@congrArg
abbrev wY:=@List.take_length
abbrev wX:=@List.all_eq_true
abbrev wW:=@Bool.and_eq_true
abbrev J6:=@Array.getD_eq_getD_getElem?
abbrev sV:=@Nat.lt_irrefl
abbrev Ci:=@Int.emod_lt_of_pos
abbrev J5:=@wpAny_callSpecial?_slot
abbrev Cg:=@List.append_assoc
abbrev wV:=@wpAny_standAt
abbrev sU:=@wpAny_of_eq
abbrev Ce:=@List.drop_length
abbrev Fx:=@of_decide_eq_false
abbrev zN:=@List.mem_range
abbrev Cd:=@Int.emod_nonneg
abbrev J4:=@Nat.pow_le_pow_right
abbrev uR:=@Int.le_refl
abbrev zM:=@Bool.not_true
abbrev Ca:=@List.take_succ
abbrev Nu:=@List.length_eq_zero_iff
abbrev Fw:=@List.length_drop
abbrev J3:=@wpAny_setField_rec
abbrev uQ:=@wpAny_rule
abbrev J0:=@wpAny_pyIter_tuple
abbrev zL:=@Nat.sub_self
abbrev Fv:=@wpAny_passesOwn
abbrev Ft:=@List.nodup_cons
abbrev Fq:=@List.nil_append
abbrev B_:=@Nat.add_assoc
abbrev JZ:=@wpAny_truthy_bool
abbrev JX:=@wpAny_setState_of
abbrev JW:=@Nat.lt_succ_of_lt
abbrev Fp:=@wpAny_tryCatch
abbrev sy:=@Nat.zero_add
abbrev yz:=@List.cons_append
abbrev yx:=@wpAny_specialOf
abbrev yw:=@wpAny_execs_nil
abbrev yt:=@Option.map_some
abbrev yr:=@List.forIn_cons
abbrev CV:=@List.getElem?_drop
abbrev HN:=@List.getElem?_cons_zero
abbrev yq:=@wpAny_setField
abbrev HJ:=@List.drop_of_length_le
abbrev HH:=@List.getElem?_zipWith
abbrev HF:=@List.getElem?_toArray
abbrev HD:=@List.getElem?_eq_none
abbrev CQ:=@wpAny_forIn_list
abbrev CP:=@Nat.lt_succ_self
abbrev CN:=@List.getElem_mem
abbrev yp:=@Bool.and_true
abbrev uX:=@wpAny_letGo
abbrev HB:=@List.mem_append_left
abbrev Hz:=@Heap.SameBut.update
abbrev ym:=@wpAny_typeOf
abbrev yj:=@List.map_nil
abbrev CJ:=@wpAny_bindName
abbrev Hy:=@List.getElem_range
abbrev Hx:=@Array.forIn_toList
abbrev Ny:=@List.pairwise_iff_getElem
abbrev Hw:=@wpAny_pyIter_list
abbrev Hv:=@List.length_range
abbrev Hu:=@Option.join_some
abbrev Ht:=@Nat.mod_eq_of_lt
abbrev Nx:=@List.getElem?_replicate
abbrev Hs:=@List.ext_getElem
abbrev Nv:=@wpAny_pyIter_rangeiter
abbrev CG:=@Nat.pow_succ
abbrev Cz:=@Nat.ne_of_gt
abbrev Cy:=@Nat.lt_trans
end
namespace L2
open PySem PySem.Spec PyProof.Rows
abbrev Key:=Sum Int Str
def U8:Key->Value->Bool
 | .inl k,v=>Value.isInt k v
 | .inr x,v=>Value.isStrOf x v
def abk (w:World):Key->Int
 | .inl k=>hashInt k
 | .inr x=>hashStr w x
theorem cQ:∀{k:Key} {v:Value},U8 k v=true->(∃i t,k=Sum.inl i/\v=Value.int i t)\/(∃x t,k=Sum.inr x/\v=Value.str x t)
 | .inl i,v,h=>by
  obtain⟨t,e⟩:=Value.isInt_shape (k:=i) (v:=v) h
  exact .inl ⟨i,t,rfl,e⟩
 | .inr x,v,h=>by
  obtain⟨t,e⟩:=Value.isStrOf_shape (x:=x) (v:=v) h
  exact .inr ⟨x,t,rfl,e⟩
theorem Wv (a b:Int):decide ((Sum.inl a:Key)=Sum.inl b)=(a==b):=by
 by_cases e:a=b
 ·subst e; simp
 ·have h:¬(Sum.inl a:Key)=Sum.inl b:=fun q=>e (Sum.inl.inj q)
  rw[fH h]
  exact(beq_eq_false_iff_ne.mpr e).symm
theorem Ws (a b:Str):decide ((Sum.inr a:Key)=Sum.inr b)=decide (a=b):=by
 by_cases e:a=b
 ·subst e; simp
 ·have h:¬(Sum.inr a:Key)=Sum.inr b:=fun q=>e (Sum.inr.inj q)
  rw[fH h,fH e]
theorem Wu (a:Int) (b:Str):decide ((Sum.inl a:Key)=Sum.inr b)=false:=fH (fun q=>nomatch q)
theorem Wt (a:Str) (b:Int):decide ((Sum.inr a:Key)=Sum.inl b)=false:=fH (fun q=>nomatch q)
def Ig (prog:Program) (w:World):PySem.KeyKind prog w Key where
 is:=U8
 hash:=abk w
 inj:=fun v a b ha hb=>by
  rcases cQ ha with⟨i,t,rfl,rfl⟩ | ⟨x,t,rfl,rfl⟩
  ·rcases cQ hb with⟨j,u,rfl,e⟩ | ⟨y,u,rfl,e⟩
   ·injection e with e1 _; rw[e1]
   ·exact nomatch e
  ·rcases cQ hb with⟨j,u,rfl,e⟩ | ⟨y,u,rfl,e⟩
   ·exact nomatch e
   ·injection e with e1 _; rw[e1]
 byValue:=fun k v h=>by
  rcases cQ h with⟨i,t,rfl,rfl⟩ | ⟨x,t,rfl,rfl⟩ <;> rfl
 pyHash:=fun hv h=>by
  rcases cQ hv with⟨i,t,rfl,rfl⟩ | ⟨x,t,rfl,rfl⟩
  ·exact wpAny_pyHash_int h
  ·exact wpAny_pyHash_str h
 eqBool:=fun hu hv h=>by
  rcases cQ hu with⟨i,t,rfl,rfl⟩ | ⟨x,t,rfl,rfl⟩
  ·rcases cQ hv with⟨j,u,rfl,rfl⟩ | ⟨y,u,rfl,rfl⟩
   ·rw[Wv] at h; exact wpAny_eqBool_int h
   ·rw[Wu] at h; exact SeqAt.EqAt.int_str i t y u _ _ _ _ h
  ·rcases cQ hv with⟨j,u,rfl,rfl⟩ | ⟨y,u,rfl,rfl⟩
   ·rw[Wt] at h; exact SeqAt.EqAt.str_int x t j u _ _ _ _ h
   ·rw[Ws] at h; exact wpAny_eqBool_str h
 «strs»:=fun k x t v h=>by
  rcases cQ h with⟨i,u,rfl,e⟩ | ⟨y,u,rfl,e⟩
  ·exact nomatch e
  ·injection e with e1 _
   subst e1
   cases v <;> rfl
inductive V where
 | non | bl (b:Bool) | int (i:Int) | str (x:Str) | Lx (b:Array UInt8) | flt (b:UInt64) | ref (a:Addr) | ty (n:String)
 deriving DecidableEq
def RelV:V->Value->Prop
 | .non,u=>u=Value.none
 | .bl b,u=>u=Value.bool b
 | .int i,u=>∃t,u=Value.int i t
 | .str x,u=>∃t,u=Value.str x t
 | .Lx b,u=>∃t,u=Value.bytes b t
 | .flt b,u=>∃t,u=Value.float b t
 | .ref a,u=>u=Value.ref a
 | .ty n,u=>u=Value.type n
abbrev Vals:List V->List Value->Prop:=Paired RelV
theorem Vals.length {xs:List V} {us:List Value} (r:Vals xs us):xs.length=us.length:=Paired.length r
theorem Vals.get:∀{xs:List V} {us:List Value} {i:Nat} {x:V},Vals xs us->xs[i]?=some x->∃u,us[i]?=some u/\RelV x u
 | _,_,_,_,.nil,e=>by simp at e
 | _,_,0,_,.cons r _,e=>by simp at e; subst e; exact⟨_,rfl,r⟩
 | _,_,i+1,x,.cons _ t,e=>by
  obtain⟨u,h1,h2⟩:=Vals.get (i:=i) (x:=x) t (by simpa using e)
  exact⟨u,by simpa using h1,h2⟩
theorem Vals.set {x:V} {u:Value} (r:RelV x u):∀{xs:List V} {us:List Value} (i:Nat),Vals xs us->Vals (xs.set i x) (us.set i u)
 | _,_,_,.nil=>.nil
 | _,_,0,.cons _ t=>.cons r t
 | _,_,i+1,.cons q t=>.cons q (Vals.set r i t)
theorem Vals.append:∀{xs ys:List V} {us ws:List Value},Vals xs us->Vals ys ws->Vals (xs++ys) (us++ws)
 | _,_,_,_,.nil,s=>s
 | _,_,_,_,.cons r t,s=>.cons r (Vals.append t s)
theorem Vals.take:∀{xs:List V} {us:List Value} (n:Nat),Vals xs us->Vals (xs.take n) (us.take n)
 | _,_,0,_=>.nil
 | _,_,_+1,.nil=>.nil
 | _,_,n+1,.cons r t=>.cons r (Vals.take n t)
theorem Vals.drop:∀{xs:List V} {us:List Value} (n:Nat),Vals xs us->Vals (xs.drop n) (us.drop n)
 | _,_,0,r=>r
 | _,_,_+1,.nil=>.nil
 | _,_,n+1,.cons _ t=>Vals.drop n t
def QG:Option V->Option Value->Prop
 | some v,some u=>RelV v u
 | none,none=>True
 | _,_=>False
def KV {κ:Type}:List (κ×V)->List (κ×Value)->Prop:=Paired fun(p:κ×V) (q:κ×Value)=>p.1=q.1/\RelV p.2 q.2
def kV:Key->V
 | .inl i=>.int i
 | .inr x=>.str x
inductive HO where
 | lst (xs:List V)
 | tup (xs:List V)
 | dK (kvs:List (Key×V)) | dT (kvs:List (List Key×V))
 | set (S:Int->Bool) (n:Nat)
 | ins (C dx:Addr) (fs:List (Str×V))
 | own (x:Addr)
 | xd (fs:List (Str×V))
 | met (f x:Addr)
 | Rn (lo hi:Int)
 | Ja (o:Obj) (u:HO)
 | Uc (ps:Array Value)
 | ext (φ:Heap->Prop)
abbrev Hp:=Addr->Option HO
def upd (H:Hp) (a:Addr) (o:HO):Hp:=fun b=>if b=a then some o else H b
theorem az {H:Hp} {a:Addr} {o:HO}:upd H a o a=some o:=by unfold upd; rw[aM rfl]
theorem aL {H:Hp} {a b:Addr} {o:HO} (h:b≠a):upd H a o b=H b:=by unfold upd; rw[aK h]
theorem bV {H:Hp} {a b:Addr} {o:HO} (h:H a=some o) (h':H b=none):a≠b:=by
 intro e; subst e; rw[h] at h'; cases h'
section
variable (P:Program) (w:World)
def cL (H:Hp) (h:Heap) (a:Addr):HO->Prop
 | .lst xs=>xs.length<=sizeLine/\∃(its:List Value) (n:Nat),Vals xs its/\h.get? a=some { cls:=.type "list",data:=.seq its.toArray n }
 | .tup xs=>xs.length<=sizeLine/\∃its:List Value,Vals xs its/\IsTup h a its.toArray
 | .dK kvs=>kvs.length<=sizeLine/\(a==sysModules)=false/\∃vs,KV kvs vs/\h.DictOf (Ig P w) a vs
 | .dT kvs=>kvs.length<=sizeLine/\(a==sysModules)=false/\∃xs:List (List Key×Addr×Value),
   Paired (fun(p:List Key×V) (q:List Key×Addr×Value)=>p.1=q.1/\H q.2.1=some (.tup (p.1.map kV))/\RelV p.2 q.2.2) kvs xs /\
   ∃o es ep,h.get? a=some o/\o.ExactDict/\o.data=.dict es ep/\es.toList=xs.map (entryOfKey (tupleKind (Ig P w)))/\(xs.map (·.1)).Nodup
 | .set S n=>h.SetOf (intKind P w) a S n
 | .ins C dx fs=>H dx=some (.own a)/\fs.length<=1000/\dx≠a/\h.get? a=some (PySem.W.instObj C dx) /\
   ∃mA,h.Ns1 dx mA/\(∀f,QG (fs.lookup f) (mA f))/\PySem.Within mA (fs.map (·.1))
 | .own _=>∃o,h.get? a=some o
 | .xd fs=>∃mA,h.Ns1 a mA/\∀f,QG (fs.lookup f) (mA f)
 | .Rn lo hi=>∃t u v,h.get? a=some { cls:=.type "range",data:=.fields #[.int lo t,.int hi u,.int 1 v] }
 | .Ja o u=>h.get? a=some o/\cL H h a u
 | .Uc ps=>h.get? a=some { cls:=.none,data:=.fields ps }
 | .met f x=>h.get? a=some (PySem.W.methodObj (.ref f) (.ref x))
 | .ext φ=>φ h/\(∃o,h.get? a=some o)/\∀h1 h2:Heap,φ h1->(∀o,h1.get? a=some o->h2.get? a=some o)->φ h2
def lK (H:Hp) (h:Heap):Prop:=∀a o,H a=some o->cL P w H h a o
end
section
variable {P:Program} {w:World} {H H':Hp} {h h':Heap} {a:Addr} {o:HO}
theorem cL.lt (x:cL P w H h a o):a<h.objs.size:=by
 cases o with
 | lst xs=>obtain⟨_,_,_,_,e⟩:=x; exact b_ e
 | tup xs=>obtain⟨_,_,_,p⟩:=x; exact p.lt
 | dK kvs=>obtain⟨_,_,_,_,o,_,_,e,_⟩:=x; exact b_ e
 | dT kvs=>obtain⟨_,_,_,_,o,_,_,e,_⟩:=x; exact b_ e
 | set S n=>obtain⟨o,_,_,_,e,_⟩:=x; exact b_ e
 | ins C dx fs=>obtain⟨_,_,_,e,_⟩:=x; exact b_ e
 | own y=>obtain⟨_,e⟩:=x; exact b_ e
 | xd fs=>obtain⟨_,⟨_,_,_,e,_⟩,_⟩:=x; exact b_ e
 | Rn lo hi=>obtain⟨_,_,_,e⟩:=x; exact b_ e
 | Ja ob u=>obtain⟨e,_⟩:=x; exact b_ e
 | Uc ps=>exact b_ (show h.get? a=some _ from x)
 | met f y=>exact b_ (show h.get? a=some _ from x)
 | ext φ=>obtain⟨_,⟨_,e⟩,_⟩:=x; exact b_ e
theorem Paired.Sd {α β:Type} {F G:α->β->Prop}:∀{l₁:List α} {l₂:List β},Paired F l₁ l₂->(∀a b,F a b->G a b)->Paired G l₁ l₂
 | _,_,.nil,_=>.nil
 | _,_,.cons r t,f=>.cons (f _ _ r) (Paired.Sd t f)
theorem cL.stay (x:cL P w H h a o) (k:∀b u,(b=a\/H b=some (.own a))->h.get? b=some u->h'.get? b=some u)
  (ho:∀b,H b=some (.own a)->H' b=some (.own a)) (ht:∀b xs,H b=some (.tup xs)->H' b=some (.tup xs)):cL P w H' h' a o:=by
 induction o with
 | lst xs=>obtain⟨z,its,n,r,e⟩:=x; exact⟨z,its,n,r,k _ _ (.inl rfl) e⟩
 | tup xs=>obtain⟨z,its,r,ob,e,c⟩:=x; exact⟨z,its,r,ob,k _ _ (.inl rfl) e,c⟩
 | dK kvs=>obtain⟨z,y,vs,r,ob,es,ep,e,c⟩:=x; exact⟨z,y,vs,r,ob,es,ep,k _ _ (.inl rfl) e,c⟩
 | dT kvs=>
  obtain⟨z,y,xs,r,ob,es,ep,e,c⟩:=x
  exact⟨z,y,xs,Paired.Sd r fun p q z=>⟨z.1,ht _ _ z.2.1,z.2.2⟩,ob,es,ep,k _ _ (.inl rfl) e,c⟩
 | set S n=>obtain⟨ob,es,ep,t,e,c⟩:=x; exact⟨ob,es,ep,t,k _ _ (.inl rfl) e,c⟩
 | ins C dx fs=>
  obtain⟨d,z,ne,e,mA,⟨od,es,ep,e2,c⟩,r⟩:=x
  exact⟨ho _ d,z,ne,k _ _ (.inl rfl) e,mA,⟨od,es,ep,k _ _ (.inr d) e2,c⟩,r⟩
 | own y=>obtain⟨ob,e⟩:=x; exact⟨ob,k _ _ (.inl rfl) e⟩
 | xd fs=>obtain⟨mA,⟨od,es,ep,e,c⟩,r⟩:=x; exact⟨mA,⟨od,es,ep,k _ _ (.inl rfl) e,c⟩,r⟩
 | Rn lo hi=>obtain⟨t,u,v,e⟩:=x; exact⟨t,u,v,k _ _ (.inl rfl) e⟩
 | Ja ob u ih=>obtain⟨e,q⟩:=x; exact⟨k _ _ (.inl rfl) e,ih q⟩
 | Uc ps=>
  have e:h.get? a=some { cls:=.none,data:=.fields ps }:=x
  show h'.get? a=some { cls:=.none,data:=.fields ps }
  exact k a _ (.inl rfl) e
 | met f y=>
  have e:h.get? a=some (PySem.W.methodObj (.ref f) (.ref y)):=x
  show h'.get? a=some (PySem.W.methodObj (.ref f) (.ref y))
  exact k a _ (.inl rfl) e
 | ext φ=>obtain⟨p,⟨o,e⟩,st⟩:=x; exact⟨st _ _ p fun o q=>k _ _ (.inl rfl) q,⟨o,k _ _ (.inl rfl) e⟩,st⟩
theorem lK.lt (x:lK P w H h) (e:H a=some o):a<h.objs.size:=(x a o e).lt
theorem lK.fresh (x:lK P w H h) (e:h.objs.size<=a):H a=none:=by
 cases q:H a with
 | none=>rfl
 | some u=>exact absurd (jV (x.lt q) e) (sV _)
theorem lK.kept (x:lK P w H h) (k:∀b u,h.get? b=some u->h'.get? b=some u):lK P w H h':=fun a o e=>
 (x a o e).stay (fun b u _ q=>k b u q) (fun _ q=>q) fun _ _ q=>q
theorem lK.laid (x:lK P w H h) (k:∀b u,h.get? b=some u->h'.get? b=some u) (hp:h.objs.size<=a) (new:cL P w (upd H a o) h' a o):lK P w (upd H a o) h':=fun b u e=>by
 have hn:=x.fresh hp
 by_cases hb:b=a
 ·subst hb; rw[az] at e; cases e; exact new
 ·rw[aL hb] at e
  exact(x b u e).stay (fun c v _ q=>k c v q) (fun c q=>by rw[aL (bV q hn)]; exact q) fun c xs q=>by rw[aL (bV q hn)]; exact q
end
def Rd (H:Hp) (a:Addr) (u:HO):Prop:=H a=some u\/∃o,H a=some (.Ja o u)
theorem Rd.ok {P:Program} {w:World} {H:Hp} {h:Heap} {a:Addr} {u:HO} (r:Rd H a u) (x:lK P w H h):cL P w H h a u:=by
 rcases r with r | ⟨o,r⟩
 ·exact x a u r
 ·obtain⟨_,q⟩:=x a _ r
  exact q
def Mut:Option HO->Prop
 | some (.lst _)=>True
 | some (.dK _)=>True
 | some (.dT _)=>True
 | some (.set _ _)=>True
 | some (.ins _ _ _)=>True
 | some (.ext _)=>True
 | _=>False
section
variable {P:Program} {w:World} {H:Hp} {h h':Heap} {x e:Addr} {o':HO}
theorem lK.write (ok:lK P w H h) (mu:Mut (H x)) (he:e=x\/H e=some (.own x)) (k:∀b u,b≠e->h.get? b=some u->h'.get? b=some u) (heo:∃u,h'.get? e=some u)
  (new:cL P w (upd H x o') h' x o'):lK P w (upd H x o') h':=fun b u q=>by
 have Y_:∀c y,H c=some (.own y)->c≠x:=fun c y r z=>by subst z; rw[r] at mu; exact mu
 have aa7:∀c xs,H c=some (.tup xs)->c≠x:=fun c xs r z=>by subst z; rw[r] at mu; exact mu
 by_cases hb:b=x
 ·subst hb; rw[az] at q; cases q; exact new
 ·rw[aL hb] at q
  by_cases hbe:b=e
  ·have q':H b=some (.own x):=by
    rcases he with z | z
    ·exact absurd (hbe.trans z) hb
    ·rw[hbe]; exact z
   rw[q] at q'; cases q'
   obtain⟨v,hv⟩:=heo
   exact⟨v,by rw[hbe]; exact hv⟩
  ·refine(ok b u q).stay (fun c v hc r=>k c v ?_ r) (fun c r=>by rw[aL (Y_ c b r)]; exact r) fun c xs r=>by rw[aL (aa7 c xs r)]; exact r
   rcases hc with rfl | hc
   ·exact hbe
   ·rintro rfl
    rcases he with z | z
    ·exact Y_ c b hc z
    ·rw[hc] at z; cases z; exact hb rfl
end
structure Un (fs ex:List Addr) (H H':Hp) (h h':Heap):Prop where
 keep:∀b o,h.get? b=some o->H b=none->b∉fs->b∉ex->h'.get? b=some o
 slot:∀b o,h.get? b=some o->H b=none->b∈fs->b∉ex->∃sl,h'.get? b=some { o with slots:=sl }
 free:∀b o,h.get? b=some o->H b=none->b∉ex->H' b=none
 there:∀b o,h.get? b=some o->b∉ex->∃o',h'.get? b=some o'
 tups:∀b xs,H b=some (.tup xs)->H' b=some (.tup xs)
 xu:∀b o u,H b=some (.Ja o u)->H' b=some (.Ja o u)
 zu:∀b ps,H b=some (.Uc ps)->∃more,H' b=some (.Uc (ps++more))
section
variable {fs fs' ex ex':List Addr} {H H1 H2:Hp} {h h1 h2 h':Heap} {a x e:Addr} {o:HO}
theorem Un.any (u:Un fs ex H H1 h h1) {b:Addr} {ob:Obj} (q:h.get? b=some ob) (n:H b=none) (hx:b∉ex):∃sl,h1.get? b=some { ob with slots:=sl }:=by
 by_cases hb:b∈fs
 ·exact u.slot b ob q n hb hx
 ·exact⟨ob.slots,u.keep b ob q n hb hx⟩
theorem Un.kept (k:∀b u,h.get? b=some u->h'.get? b=some u):Un fs ex H H h h':=
 ⟨fun b ob q _ _ _=>k b ob q,fun b ob q _ _ _=>⟨ob.slots,k b ob q⟩,fun _ _ _ n _=>n,fun b ob q _=>⟨ob,k b ob q⟩,fun _ _ q=>q,fun _ _ _ q=>q,fun _ ps q=>⟨#[],by rw[q]; simp⟩⟩
theorem Un.refl:Un fs ex H H h h:=Un.kept fun _ _ q=>q
theorem Un.laid (k:∀b u,h.get? b=some u->h'.get? b=some u) (hp:h.objs.size<=a) (hn:H a=none):Un fs ex H (upd H a o) h h' where
 keep:=fun b u q _ _ _=>k b u q
 slot:=fun b u q _ _ _=>⟨u.slots,k b u q⟩
 free:=fun b u q n _=>by rw[aL (gk (jV (b_ q) hp))]; exact n
 there:=fun b u q _=>⟨u,k b u q⟩
 tups:=fun b xs q=>by rw[aL (bV q hn)]; exact q
 xu:=fun b u xs q=>by rw[aL (bV q hn)]; exact q
 zu:=fun b ps q=>⟨#[],by rw[aL (bV q hn),q]; simp⟩
theorem Un.write (mu:Mut (H x)) (he:e=x\/H e=some (.own x)) (k:∀b u,b≠e->h.get? b=some u->h'.get? b=some u) (heo:∃u,h'.get? e=some u):Un fs ex H (upd H x o) h h':=by
 have hx:∀b,H b=none->b≠x:=fun b n z=>by subst z; rw[n] at mu; exact mu
 have hb:∀b,H b=none->b≠e:=fun b n z=>by
  subst z
  rcases he with r | r
  ·exact hx b n r
  ·rw[n] at r; cases r
 have hm:∀b u,H b=some u->¬Mut (some u)->b≠x:=fun b u q nm z=>by subst z; rw[q] at mu; exact nm mu
 refine⟨fun b u q n _ _=>k b u (hb b n) q,fun b u q n _ _=>⟨u.slots,k b u (hb b n) q⟩,fun b u q n _=>by rw[aL (hx b n)]; exact n,fun b u q _=>?_,
  fun b xs q=>by rw[aL (hm b _ q fun z=>z)]; exact q,fun b u xs q=>by rw[aL (hm b _ q fun z=>z)]; exact q,fun b ps q=>⟨#[],by rw[aL (hm b _ q fun z=>z),q]; simp⟩⟩
 by_cases hbe:b=e
 ·subst hbe; exact heo
 ·exact⟨u,k b u hbe q⟩
end
def Z5 (h:Heap) (H:Hp):List Addr:=(List.range h.objs.size).filter fun a=>(H a).isSome
def Aj (h:Heap) (H:Hp):Heap:=PySem.W.hideAll h (Z5 h H)
theorem K3 (h:Heap) (H:Hp):(Aj h H).objs.size=h.objs.size:=PySem.W.hideAll_size _ _
theorem PB {h:Heap} {H:Hp} {b:Addr} {o:Obj} (e:h.get? b=some o) (n:H b=none):(Aj h H).get? b=some o:=
 PySem.W.hideAll_get _ e fun hm=>by
  have q:(H b).isSome=true:=(List.mem_filter.mp hm).2
  rw[n] at q; simp at q
theorem R3 {h:Heap} {H:Hp} {b:Addr} {o:Obj} (e:(Aj h H).get? b=some o):h.get? b=some o/\H b=none:=by
 have e':h.get? b=some o:=PySem.W.of_hideAll (Z5 h H) e
 refine⟨e',?_⟩
 cases q:H b with
 | none=>rfl
 | some x=>
  have hm:b∈Z5 h H:=List.mem_filter.mpr ⟨zN.mpr (b_ e'),by simp[q]⟩
  have z:(Aj h H).get? b=none:=PySem.W.hideAll_none (Z5 h H) hm
  rw[z] at e; cases e
def Tw (g h:Heap) (L:Addr):List (Addr×Obj):=(List.range h.objs.size).filterMap fun a=>if a=L\/(g.get? a).isSome=true then none else(h.get? a).map fun o=>(a,o)
def rest (g h:Heap) (L d:Addr):List (Addr×Obj):=(Tw g h L).filter fun p=>decide (p.1≠d)
structure Mod (K:PySem.W.Frag) (mg:Str->Option Value) (base:Heap):Prop where
 Ls:K.In base
 glob:base.Ns mainGlobals mg
 blt:∃mb,base.Ns builtinsNs mb/\∀x:Str,x ≠ "__name__" -> mb x=bootBuiltins x
 nolimit:base.NoLimit
structure Cx where
 prog:Program
 w:World
 K:PySem.W.Frag
 mg:Str->Option Value
 base:Heap
 A:Around
 N:List Str
 s₀:Shared
 H₀:Hp
 env:Env
 outer:List Env
 stack:List Env
 ex:List Addr
 fn:Str->Bool
 calm:Bool
 pn:List (Addr×Obj)
 xe:Value->Shared->Prop
def frs (l:List Env):List Addr:=l.filterMap (·.frame)
abbrev Cx.fs (X:Cx):List Addr:=frs X.outer
def Vis (sc:Scope) (x:Str):Prop:=sc.names.lookup x=some .local\/sc.names.lookup x=some .cell\/sc.names.lookup x=some .free
def Loc (sc:Scope) (x:Str):Prop:=sc.names.lookup x=some .local\/sc.names.lookup x=some .cell
def Look (env:Env) (h:Heap) (m:Str->Option Value) (x:Str) (u:Value):Prop:=
 (env.kindOf x=some .local/\m x=some u)\/((env.kindOf x=some .cell\/env.kindOf x=some .free)/\∃c,env.cells.lookup x=some c/\h.IsCell c (some u))
structure Cx.Ok (X:Cx):Prop where
 mod:Mod X.K X.mg X.base
 kind:X.env.scope.kind=.function
 glob:X.env.globals=mainGlobals
 blt:X.env.builtins=builtinsNs
 above:X.s₀.heap.objs.size<=X.env.locals
 inj:∀x y c,X.env.cells.lookup x=some c->X.env.cells.lookup y=some c->x=y
 has:∀x,(X.env.kindOf x=some .cell\/X.env.kindOf x=some .free)->∃c,X.env.cells.lookup x=some c
 cab:∀x c,X.fn x=true->X.env.cells.lookup x=some c->X.s₀.heap.objs.size<=c
 hd:X.calm=true->X.A.handled=none
 frames:X.A.frames=some X.stack
 Yr:X.stack=X.outer\/(X.stack=X.env::X.outer/\X.env.frame=some X.env.locals)
 Zz:∀b∈X.ex,b≠X.env.locals/\∀x c,X.env.cells.lookup x=some c->c≠b
 bs:∀b o,X.base.get? b=some o->X.s₀.heap.get? b=some o/\X.H₀ b=none
 Qy:X.base.objs.size<=X.s₀.heap.objs.size
 Gd:∀b o,X.base.get? b=some o->b∉X.ex
 Gp:∀b∈X.ex,b∉X.fs
 tH:X.s₀.heap.FunFrames X.base X.outer
 WK:∀b∈X.fs,X.H₀ b=none
structure Inv (X:Cx) (pins:List (Addr×Obj)) (σ:List (Option V)) (H:Hp) (s:Shared):Prop where
 ok:X.Ok
 os:s.os=X.s₀.os
 bare:AllBare s.gens
 base:Un X.fs X.ex X.H₀ H X.s₀.heap s.heap
 loc:∃m,s.heap.Ns X.env.locals m/\∀(i:Nat) (x:Str) (v:V),X.N[i]?=some x->σ[i]?=some (some v)->Vis X.env.scope x->∃u,RelV v u/\Look X.env s.heap m x u
 cell:∀x c,X.env.cells.lookup x=some c->∃v,s.heap.IsCell c v
 free:H X.env.locals=none
 j6:∀x c,X.env.cells.lookup x=some c->H c=none
 pin:∀p∈X.pn++pins,s.heap.get? p.1=some p.2/\H p.1=none/\p.1≠X.env.locals/\p.1∉X.fs/\∀v,p.2.data≠.cell v
 hok:lK X.prog X.w H s.heap
 len:σ.length=X.N.length
section
variable {X:Cx} {pins:List (Addr×Obj)} {σ:List (Option V)} {H H':Hp} {s:Shared} {h':Heap}
theorem Cx.Ok.aa9 (ok:X.Ok) {b:Addr} {o:Obj} (e:X.base.get? b=some o):b∉X.fs:=fun hb=>by
 have:=(ok.tH.mem hb).1
 rw[e] at this; cases this
theorem Inv.bs (I:Inv X pins σ H s):∀b o,X.base.get? b=some o->s.heap.get? b=some o/\H b=none:=fun b o e=>
 ⟨I.base.keep b o (I.ok.bs b o e).1 (I.ok.bs b o e).2 (I.ok.aa9 e) (I.ok.Gd b o e),I.base.free b o (I.ok.bs b o e).1 (I.ok.bs b o e).2 (I.ok.Gd b o e)⟩
theorem Inv.bk (I:Inv X pins σ H s):∀b o,X.base.get? b=some o->s.heap.get? b=some o:=fun b o e=>(I.bs b o e).1
theorem Inv.mod (I:Inv X pins σ H s):Mod X.K X.mg X.base:=I.ok.mod
theorem Inv.Ph (I:Inv X pins σ H s):X.K.In s.heap:=I.ok.mod.Ls.keeps I.bk
theorem Inv.fr (I:Inv X pins σ H s):∃m,Fr X.base X.env.locals s.heap m:=
 let ⟨m,hn,_⟩:=I.loc
 ⟨m,hn,I.bk,nR I.ok.Qy I.ok.above⟩
theorem Inv.lt (I:Inv X pins σ H s):X.env.locals<s.heap.objs.size:=let ⟨_,hn,_⟩:=I.loc; hn.lt
theorem Inv.sz (I:Inv X pins σ H s):X.s₀.heap.objs.size<=s.heap.objs.size:=nR I.ok.above (iz I.lt)
theorem Inv.aa8 (I:Inv X pins σ H s) {a:Addr} (h:s.heap.objs.size<=a):a∉X.fs:=fun hb=>by
 obtain⟨_,o,ho,_⟩:=I.ok.tH.mem hb
 exact absurd (jV (b_ ho) (nR I.sz h)) (sV _)
theorem Inv.W2 (I:Inv X pins σ H s):∀x c,X.env.cells.lookup x=some c->c≠X.env.locals:=fun x c e z=>by
 obtain⟨v,o,ho,hd⟩:=I.cell x c e
 obtain⟨m,⟨o',es,ep,ho',hd',_⟩,_⟩:=I.loc
 rw[z,ho'] at ho; cases ho; rw[hd'] at hd; cases hd
theorem Inv.tH (I:Inv X pins σ H s):s.heap.FunFrames X.base X.outer:=by
 have all:∀(l:List Env),(∀b∈frs l,b∈X.fs)->X.s₀.heap.FunFrames X.base l->s.heap.FunFrames X.base l:=by
  intro l
  induction l with
  | nil=>intro _ _; trivial
  | cons env r ih=>
   intro hs hl
   obtain⟨hk,⟨L,o,hf,hn,ho,hd⟩,hr⟩:=hl
   have hL:L∈X.fs:=hs L (by unfold frs; rw[List.filterMap_cons,hf]; exact jo)
   obtain⟨sl,e⟩:=I.base.slot L o ho (I.ok.WK L hL) hL fun z=>I.ok.Gp L z hL
   exact⟨hk,⟨L,_,hf,hn,e,hd⟩,ih (fun b hb=>hs b (by unfold frs; rw[List.filterMap_cons,hf]; exact il _ hb)) hr⟩
 exact all X.outer (fun _ hb=>hb) I.ok.tH
theorem Inv.stack (I:Inv X pins σ H s):s.heap.FunFrames X.base X.stack:=by
 rcases I.ok.Yr with e | ⟨e,hf⟩
 ·rw[e]; exact I.tH
 ·rw[e]
  obtain⟨m,hn,_⟩:=I.loc
  refine .cons (by rw[I.ok.kind]; decide) hf hn ?_ I.tH
  exact Heap.get?_none_of_le (nR I.ok.Qy I.ok.above)
theorem Inv.E_ (I:Inv X pins σ H s):∀b∈frs X.stack,b∈X.env.locals::X.fs:=fun b hb=>by
 rcases I.ok.Yr with e | ⟨e,hf⟩
 ·rw[e] at hb; exact il _ hb
 ·rw[e] at hb
  unfold frs at hb
  rw[List.filterMap_cons,hf] at hb
  exact hb
theorem Inv.tR (I:Inv X pins σ H s):∀b∈frs X.stack,H b=none:=fun b hb=>by
 rcases b8.mp (I.E_ b hb) with e | hb
 ·rw[e]; exact I.free
 ·obtain⟨_,o,ho,_⟩:=I.ok.tH.mem hb
  exact I.base.free b o ho (I.ok.WK b hb) fun z=>I.ok.Gp b z hb
theorem Inv.step {g':Array GenState} {t':Nat} {d':Drawn} {ch:List Addr} (I:Inv X pins σ H s)
  (hch:∀b∈ch,(b∈X.ex\/X.s₀.heap.objs.size<=b)/\b≠X.env.locals/\(∀x c,X.env.cells.lookup x=some c->c≠b)/\∀p∈X.pn++pins,p.1≠b)
  (keep:∀b o,b≠X.env.locals->b∉X.fs->b∉ch->s.heap.get? b=some o->H b=none->h'.get? b=some o)
  (slot:∀b o,b≠X.env.locals->b∈X.fs->b∉ch->s.heap.get? b=some o->H b=none->∃sl,h'.get? b=some { o with slots:=sl }) (free:∀b o,b∉ch->s.heap.get? b=some o->H b=none->H' b=none)
  (there:∀b o,b∉ch->s.heap.get? b=some o->∃o',h'.get? b=some o')
  (tups:∀b xs,H b=some (.tup xs)->H' b=some (.tup xs)) (xu:∀b o u,H b=some (.Ja o u)->H' b=some (.Ja o u)) (zu:∀b ps,H b=some (.Uc ps)->∃more,H' b=some (.Uc (ps++more)))
  (ns:∀m,s.heap.Ns X.env.locals m->h'.Ns X.env.locals m) (hok:lK X.prog X.w H' h') (hg:AllBare g') :
  Inv X pins σ H' { s with heap:=h',gens:=g',drawn:=d',toks:=t' }:=by
 have neL:∀b o,X.s₀.heap.get? b=some o->b≠X.env.locals:=fun b o e=>gk (jV (b_ e) I.ok.above)
 have neC:∀b o,X.s₀.heap.get? b=some o->b∉X.ex->b∉ch:=fun b o e hx hb=>by
  rcases(hch b hb).1 with z | z
  ·exact hx z
  ·exact absurd (jV (b_ e) z) (sV _)
 have cellK:∀x c,X.env.cells.lookup x=some c->∀v,s.heap.IsCell c v->h'.IsCell c v:=fun x c e v ⟨o,ho,hd⟩=>by
  have Zd:c∉ch:=fun z=>(hch c z).2.2.1 x c e rfl
  by_cases hc:c∈X.fs
  ·obtain⟨sl,q⟩:=slot c o (I.W2 x c e) hc Zd ho (I.j6 x c e)
   exact⟨_,q,hd⟩
  ·exact⟨o,keep c o (I.W2 x c e) hc Zd ho (I.j6 x c e),hd⟩
 refine⟨I.ok,I.os,hg,⟨fun b o e n hb hx=>?_,fun b o e n hb hx=>?_,fun b o e n hx=>?_,fun b o e hx=>?_,fun b xs e=>tups b xs (I.base.tups b xs e),fun b o xs e=>xu b o xs (I.base.xu b o xs e),fun b ps e=>?_⟩,?_,fun x c e=>?_,?_,fun x c e=>?_,fun p hp=>?_,hok,I.len⟩
 ·exact keep b o (neL b o e) hb (neC b o e hx) (I.base.keep b o e n hb hx) (I.base.free b o e n hx)
 ·obtain⟨sl,e1⟩:=I.base.slot b o e n hb hx
  obtain⟨sl',e2⟩:=slot b _ (neL b o e) hb (neC b o e hx) e1 (I.base.free b o e n hx)
  exact⟨sl',e2⟩
 ·obtain⟨o',e1⟩:=I.base.there b o e hx
  exact free b o' (neC b o e hx) e1 (I.base.free b o e n hx)
 ·obtain⟨o',e1⟩:=I.base.there b o e hx
  exact there b o' (neC b o e hx) e1
 ·obtain⟨m1,e1⟩:=I.base.zu b ps e
  obtain⟨m2,e2⟩:=zu b _ e1
  exact⟨m1++m2,by rw[e2,Array.append_assoc]⟩
 ·obtain⟨m,hn,hl⟩:=I.loc
  refine⟨m,ns m hn,fun i x v e1 e2 e3=>?_⟩
  obtain⟨u,r,l⟩:=hl i x v e1 e2 e3
  refine⟨u,r,?_⟩
  rcases l with l | ⟨k,c,e,z⟩
  ·exact .inl l
  ·exact .inr ⟨k,c,e,cellK x c e _ z⟩
 ·obtain⟨v,z⟩:=I.cell x c e
  exact⟨v,cellK x c e v z⟩
 ·obtain⟨m,⟨o,_,_,ho,_⟩,_⟩:=I.loc
  exact free _ o (fun z=>(hch _ z).2.1 rfl) ho I.free
 ·obtain⟨v,o,ho,hd⟩:=I.cell x c e
  exact free c o (fun z=>(hch c z).2.2.1 x c e rfl) ho (I.j6 x c e)
 ·obtain⟨e,n,ne,nf,d⟩:=I.pin p hp
  have Zd:p.1∉ch:=fun z=>(hch p.1 z).2.2.2 p hp rfl
  exact⟨keep p.1 p.2 ne nf Zd e n,free p.1 p.2 Zd e n,ne,nf,d⟩
theorem Inv.un {t':Nat} (I:Inv X pins σ H s) (u:Un X.fs [] H H' s.heap h') (hok:lK X.prog X.w H' h'):Inv X pins σ H' { s with heap:=h',toks:=t' }:=by
 obtain⟨m,⟨o,es,ep,ho,r⟩,_⟩:=id I.loc
 obtain⟨sl,hL⟩:=u.any ho I.free (by simp)
 exact I.step (g':=s.gens) (d':=s.drawn) (ch:=[]) (fun _ z=>nomatch z) (fun b o _ hb _ e n=>u.keep b o e n hb (by simp)) (fun b o _ hb _ e n=>u.slot b o e n hb (by simp)) (fun b o _ e n=>u.free b o e n (by simp)) (fun b o _ e=>u.there b o e (by simp)) u.tups u.xu u.zu (fun m' hm=>by
  obtain⟨o',es',ep',ho',r'⟩:=hm
  rw[ho] at ho'; cases ho'
  exact⟨_,es',ep',hL,r'⟩) hok I.bare
theorem Inv.call {g':Array GenState} {t':Nat} {d':Drawn} {ch:List Addr} (I:Inv X pins σ H s) (u:Un (frs X.stack) ch H H' s.heap h') (hok:lK X.prog X.w H' h') (hg:AllBare g')
  (hch:∀b∈ch,(b∈X.ex\/X.s₀.heap.objs.size<=b)/\b≠X.env.locals/\(∀x c,X.env.cells.lookup x=some c->c≠b)/\∀p∈X.pn++pins,p.1≠b) :
  Inv X pins σ H' { s with heap:=h',gens:=g',drawn:=d',toks:=t' }:=by
 obtain⟨m,⟨o,es,ep,ho,r⟩,_⟩:=id I.loc
 obtain⟨sl,hL⟩:=u.any ho I.free fun z=>(hch _ z).2.1 rfl
 exact I.step (ch:=ch) hch (fun b o hL hb hc e n=>u.keep b o e n (fun z=>(b8.mp (I.E_ b z)).elim hL hb) hc) (fun b o _ _ hc e n=>u.any e n hc) (fun b o hc e n=>u.free b o e n hc) (fun b o hc e=>u.there b o e hc) u.tups u.xu u.zu (fun m' hm=>by
  obtain⟨o',es',ep',ho',r'⟩:=hm
  rw[ho] at ho'; cases ho'
  exact⟨_,es',ep',hL,r'⟩) hok hg
theorem Inv.turned {t':Nat} {it:Addr} (I:Inv X pins σ H s) (k:∀b o,b≠it->s.heap.get? b=some o->h'.get? b=some o) (hn:H it=none) (hL:it≠X.env.locals)
  (h1:it∈X.ex\/X.s₀.heap.objs.size<=it) (h2:∀x c,X.env.cells.lookup x=some c->c≠it) (h3:∀p∈X.pn++pins,p.1≠it):Inv X pins σ H { s with heap:=h',toks:=t' }:=by
 have Zb:∀b u,H b=some u->b≠it:=fun b u e z=>by rw[z,hn] at e; cases e
 refine I.step (g':=s.gens) (d':=s.drawn) (ch:=[it]) (fun b hb=>?_) (fun b o _ _ hc e _=>k b o (fun z=>hc (by simp[z])) e) (fun b o _ _ hc e _=>⟨o.slots,k b o (fun z=>hc (by simp[z])) e⟩) (fun _ _ _ _ n=>n)
  (fun b o hc e=>⟨o,k b o (fun z=>hc (by simp[z])) e⟩) (fun _ _ e=>e) (fun _ _ _ e=>e) (fun b ps e=>⟨#[],by rw[e]; simp⟩) (fun m hm=>?_) (fun b u e=>?_) I.bare
 ·have e:b=it:=by simpa using hb
  subst e
  exact⟨h1,hL,h2,h3⟩
 ·obtain⟨o,es,ep,ho,r⟩:=hm
  exact⟨o,es,ep,k _ o (Ne.symm hL) ho,r⟩
 ·refine(I.hok b u e).stay (fun c v hc q=>k c v ?_ q) (fun _ q=>q) fun _ _ q=>q
  rcases hc with z | z
  ·rw[z]; exact Zb b u e
  ·exact Zb c _ z
theorem Inv.tok (I:Inv X pins σ H s) (t:Nat):Inv X pins σ H { s with toks:=t }:=I.un (h':=s.heap) (t':=t) Un.refl I.hok
theorem Inv.kept {t':Nat} (I:Inv X pins σ H s) (k:∀b u,s.heap.get? b=some u->h'.get? b=some u):Inv X pins σ H { s with heap:=h',toks:=t' }:=I.un (Un.kept k) (I.hok.kept k)
theorem Inv.laid {a:Addr} {o:HO} {t':Nat} (I:Inv X pins σ H s) (k:∀b u,s.heap.get? b=some u->h'.get? b=some u) (hp:s.heap.objs.size<=a) (new:cL X.prog X.w (upd H a o) h' a o) :
  Inv X pins σ (upd H a o) { s with heap:=h',toks:=t' }:=I.un (Un.laid k hp (I.hok.fresh hp)) (I.hok.laid k hp new)
theorem Inv.write {x e:Addr} {o:HO} {t':Nat} (I:Inv X pins σ H s) (mu:Mut (H x)) (he:e=x\/H e=some (.own x)) (k:∀b u,b≠e->s.heap.get? b=some u->h'.get? b=some u) (heo:∃u,h'.get? e=some u)
  (new:cL X.prog X.w (upd H x o) h' x o):Inv X pins σ (upd H x o) { s with heap:=h',toks:=t' }:=I.un (Un.write mu he k heo) (I.hok.write mu he k heo new)
theorem Inv.weak {σ':List (Option V)} (I:Inv X pins σ H s) (hl:σ'.length=σ.length) (w:∀(i:Nat) v,σ'[i]?=some (some v)->σ[i]?=some (some v)):Inv X pins σ' H s:=
 ⟨I.ok,I.os,I.bare,I.base,let ⟨m,hn,hl'⟩:=I.loc; ⟨m,hn,fun i x v e1 e2 e3=>hl' i x v e1 (w i v e2) e3⟩,I.cell,I.free,I.j6,I.pin,I.hok,hl.trans I.len⟩
theorem Inv.HR {UG:List (Addr×Obj)} (I:Inv X pins σ H s) (h:∀p∈UG,s.heap.get? p.1=some p.2/\H p.1=none/\p.1≠X.env.locals/\p.1∉X.fs/\∀v,p.2.data≠.cell v):Inv X UG σ H s:=
 ⟨I.ok,I.os,I.bare,I.base,I.loc,I.cell,I.free,I.j6,fun p hp=>(oV.mp hp).elim (fun z=>I.pin p (HB _ z)) (h p),I.hok,I.len⟩
theorem Dp {N:List Str} (hN:N.Nodup) {i j:Nat} {x:Str} (a:N[i]?=some x) (b:N[j]?=some x):i=j:=by
 obtain⟨h1,e1⟩:=fK.mp a
 obtain⟨h2,e2⟩:=fK.mp b
 exact(List.getElem_inj hN).mp (e1.trans e2.symm)
theorem JL {M:Model} {A:Around} {E:Value->Shared->Prop} {i:Nat} {x:Str} {v:V} {u:Value} {Q:Unit->Shared->Prop} (I:Inv X pins σ H s) (hN:X.N.Nodup) (hi:X.N[i]?=some x) (hx:Loc X.env.scope x) (r:RelV v u)
  (h:∀s',Inv X pins (σ.set i (some v)) H s'->(∃a,Heap.SameBut a s.heap s'.heap/\(a=X.env.locals\/X.env.cells.lookup x=some a))->Q () s') (hf:X.fn x=true\/X.env.scope.names.lookup x=some .local:=by first | exact .inl rfl | exact .inr rfl | assumption):wpAny M A (storeName X.env x u) Q E s:=by
 obtain⟨m,hn,hl⟩:=id I.loc
 have hcls:(X.env.scope.kind==.class || (X.env.scope.kind==.module&&X.env.locals != X.env.globals))=false:=by rw[I.ok.kind]; rfl
 have Zo:i<σ.length:=by rw[I.len]; exact(fK.mp hi).1
 have W2:=I.W2
 have tracked:∀{a:Addr} {h':Heap},(∃o,s.heap.get? a=some o/\H a=none)->Heap.SameBut a s.heap h'->lK X.prog X.w H h':=fun {a h'} ha hs b ob e=>by
  obtain⟨_,_,hfree⟩:=ha
  refine(I.hok b ob e).stay (fun c w' hc q=>(hs.2 c ?_).trans q) (fun _ q=>q) fun _ _ q=>q
  rintro rfl
  rcases hc with rfl | hc
  ·rw[hfree] at e; cases e
  ·rw[hfree] at hc; cases hc
 rcases hx with hk | hk
 ·refine wpAny_storeName_local hk hn (fun h' hn' hs=>?_) hcls
  obtain⟨oL,_,_,hoL,_⟩:=id hn
  refine h _ ⟨I.ok,I.os,I.bare,⟨fun b o e n hb hx=>?_,fun b o e n hb hx=>?_,I.base.free,fun b o e hx=>?_,I.base.tups,I.base.xu,I.base.zu⟩,⟨_,hn',fun j y v' e1 e2 e3=>?_⟩,fun y c e=>?_,I.free,I.j6,fun p hp=>?_,tracked ⟨oL,hoL,I.free⟩ hs,by simpa using I.len⟩ ⟨_,hs,.inl rfl⟩
  ·exact(hs.2 b (gk (jV (b_ e) I.ok.above))).trans (I.base.keep b o e n hb hx)
  ·obtain⟨sl,e1⟩:=I.base.slot b o e n hb hx
   exact⟨sl,(hs.2 b (gk (jV (b_ e) I.ok.above))).trans e1⟩
  ·obtain⟨o',e1⟩:=I.base.there b o e hx
   exact⟨o',(hs.2 b (gk (jV (b_ e) I.ok.above))).trans e1⟩
  ·by_cases hj:j=i
   ·subst hj
    rw[hi] at e1; cases e1
    rw[List.getElem?_set_self Zo] at e2
    cases e2
    exact⟨u,r,.inl ⟨hk,by simp⟩⟩
   ·rw[List.getElem?_set_ne (Ne.symm hj)] at e2
    obtain⟨u',r',q⟩:=hl j y v' e1 e2 e3
    refine⟨u',r',?_⟩
    rcases q with⟨k,e⟩ | ⟨k,c,e,z⟩
    ·refine .inl ⟨k,?_⟩
     have:y≠x:=fun e=>hj (Dp hN e1 (e▸hi))
     simp[this,e]
    ·exact .inr ⟨k,c,e,z.sameBut hs (W2 y c e)⟩
  ·obtain⟨w',z⟩:=I.cell y c e
   exact⟨w',z.sameBut hs (W2 y c e)⟩
  ·obtain⟨e,n,ne,nf,d⟩:=I.pin p hp
   exact⟨(hs.2 p.1 ne).trans e,n,ne,nf,d⟩
 ·have hfn:X.fn x=true:=by
   rcases hf with z | z
   ·exact z
   ·rw[z] at hk; cases hk
  obtain⟨c,hc⟩:=I.ok.has x (.inl hk)
  obtain⟨w',z⟩:=I.cell x c hc
  refine wpAny_storeName_cell I.ok.kind hk hc z (fun h' hc' hs=>?_)
  obtain⟨oc,hoc,abt⟩:=id z
  refine h { s with heap:=h' } ⟨I.ok,I.os,I.bare,⟨fun b o e n hb hx=>?_,fun b o e n hb hx=>?_,I.base.free,fun b o e hx=>?_,I.base.tups,I.base.xu,I.base.zu⟩,⟨m,hn.sameBut hs (Ne.symm (W2 x c hc)),fun j y v' e1 e2 e3=>?_⟩,fun y c' e=>?_,I.free,I.j6,fun p hp=>?_,tracked ⟨oc,hoc,I.j6 x c hc⟩ hs,by simpa using I.len⟩ ⟨c,hs,.inr hc⟩
  ·exact(hs.2 b (gk (jV (b_ e) (I.ok.cab x c hfn hc)))).trans (I.base.keep b o e n hb hx)
  ·obtain⟨sl,e1⟩:=I.base.slot b o e n hb hx
   exact⟨sl,(hs.2 b (gk (jV (b_ e) (I.ok.cab x c hfn hc)))).trans e1⟩
  ·obtain⟨o',e1⟩:=I.base.there b o e hx
   exact⟨o',(hs.2 b (gk (jV (b_ e) (I.ok.cab x c hfn hc)))).trans e1⟩
  ·by_cases hj:j=i
   ·subst hj
    rw[hi] at e1; cases e1
    rw[List.getElem?_set_self Zo] at e2
    cases e2
    exact⟨u,r,.inr ⟨.inl hk,c,hc,hc'⟩⟩
   ·rw[List.getElem?_set_ne (Ne.symm hj)] at e2
    obtain⟨u',r',q⟩:=hl j y v' e1 e2 e3
    refine⟨u',r',?_⟩
    rcases q with q | ⟨k,c',e,z'⟩
    ·exact .inl q
    ·refine .inr ⟨k,c',e,z'.sameBut hs ?_⟩
     rintro rfl
     exact hj (Dp hN e1 (I.ok.inj _ _ _ e hc▸hi))
  ·by_cases hcc:c'=c
   ·subst hcc; exact⟨_,hc'⟩
   ·obtain⟨w2,z2⟩:=I.cell y c' e
    exact⟨w2,z2.sameBut hs hcc⟩
  ·obtain⟨e,n,ne,nf,d⟩:=I.pin p hp
   refine⟨(hs.2 p.1 ?_).trans e,n,ne,nf,d⟩
   intro q
   rw[q,hoc] at e
   have q':oc=p.2:=Option.some.inj e
   exact d w' (by rw[<- q']; exact abt)
theorem fU {M:Model} {A:Around} {E:Value->Shared->Prop} {i:Nat} {x:Str} {v:V} {u:Value} {Q:Unit->Shared->Prop} (I:Inv X pins σ H s) (hN:X.N.Nodup) (hi:X.N[i]?=some x) (hx:Loc X.env.scope x) (r:RelV v u)
  (h:∀s',Inv X pins (σ.set i (some v)) H s'->Q () s') (hf:X.fn x=true\/X.env.scope.names.lookup x=some .local:=by first | exact .inl rfl | exact .inr rfl | assumption):wpAny M A (storeName X.env x u) Q E s:=
 JL I hN hi hx r (fun s' I' _=>h s' I') hf
theorem Inv.call' {s':Shared} {ch:List Addr} (I:Inv X pins σ H s) (ho:s'.os=s.os) (u:Un (frs X.stack) ch H H' s.heap s'.heap) (hok:lK X.prog X.w H' s'.heap) (hg:AllBare s'.gens)
  (hch:∀b∈ch,(b∈X.ex\/X.s₀.heap.objs.size<=b)/\b≠X.env.locals/\(∀x c,X.env.cells.lookup x=some c->c≠b)/\∀p∈X.pn++pins,p.1≠b):Inv X pins σ H' s':=by
 obtain⟨h',g',d',t',o'⟩:=s'
 have e:o'=s.os:=ho
 subst e
 exact I.call (g':=g') (t':=t') (d':=d') u hok hg hch
end
abbrev XK:=Value->Option Addr->Hp->Prop
abbrev St:=List (Option V)
abbrev VK:=V->Hp->Prop
abbrev TE:=St->Hp->VK->Prop
abbrev TT:=St->Hp->(Bool->Hp->Prop)->Prop
abbrev TA:=St->Hp->(List V->Hp->Prop)->Prop
structure Ends where
 nx:St->Hp->Prop
 rt:VK
 bk:St->Hp->Prop:=fun _ _=>False
 ct:St->Hp->Prop:=fun _ _=>False
abbrev TS:=Ends->St->Hp->Prop
def EP (X:Cx) (pins:List (Addr×Obj)) (σ:St) (Q:VK) (u:Value) (s':Shared):Prop:=∃v H',Inv X pins σ H' s'/\RelV v u/\Q v H'
def TP (X:Cx) (pins:List (Addr×Obj)) (σ:St) (Q:Bool->Hp->Prop) (b:Bool) (s':Shared):Prop:=∃H',Inv X pins σ H' s'/\Q b H'
def AP (X:Cx) (pins:List (Addr×Obj)) (σ:St) (Q:List V->Hp->Prop) (us:List Value) (s':Shared):Prop:=∃vs H',Inv X pins σ H' s'/\Vals vs us/\Q vs H'
def SP (X:Cx) (pins:List (Addr×Obj)) (D:Ends) (f:Flow) (s':Shared):Prop:=
 match f with
 | .next=>∃σ' H',Inv X pins σ' H' s'/\D.nx σ' H'
 | .brk=>∃σ' H',Inv X pins σ' H' s'/\D.bk σ' H'
 | .cont=>∃σ' H',Inv X pins σ' H' s'/\D.ct σ' H'
 | .ret u=>∃v σ' H',Inv X pins σ' H' s'/\RelV v u/\D.rt v H'
structure PE (X:Cx) (e:Expr) (t:TE):Prop where
 mk ::
 go :
 ∀(pins:List (Addr×Obj)) (s:Shared) (σ:St) (H:Hp) (Q:VK),Inv X pins σ H s->t σ H Q->wpAny (model X.prog X.w) X.A (eval e X.env) (EP X pins σ Q) X.xe s
instance {X:Cx} {e:Expr} {t:TE}:CoeFun (PE X e t) (fun _=>
 ∀(pins:List (Addr×Obj)) (s:Shared) (σ:St) (H:Hp) (Q:VK),Inv X pins σ H s->t σ H Q->wpAny (model X.prog X.w) X.A (eval e X.env) (EP X pins σ Q) X.xe s):=⟨PE.go⟩
structure PT (X:Cx) (e:Expr) (t:TT):Prop where
 mk ::
 go :
 ∀(pins:List (Addr×Obj)) (s:Shared) (σ:St) (H:Hp) (Q:Bool->Hp->Prop),Inv X pins σ H s->t σ H Q->wpAny (model X.prog X.w) X.A (isTrue e X.env (eval e X.env)) (TP X pins σ Q) X.xe s
instance {X:Cx} {e:Expr} {t:TT}:CoeFun (PT X e t) (fun _=>
 ∀(pins:List (Addr×Obj)) (s:Shared) (σ:St) (H:Hp) (Q:Bool->Hp->Prop),Inv X pins σ H s->t σ H Q->wpAny (model X.prog X.w) X.A (isTrue e X.env (eval e X.env)) (TP X pins σ Q) X.xe s):=⟨PT.go⟩
structure PW (X:Cx) (e:Expr) (t:TT):Prop where
 mk ::
 go :
 ∀(whole:Sem Value) (pins:List (Addr×Obj)) (s:Shared) (σ:St) (H:Hp) (Q:Bool->Hp->Prop),Inv X pins σ H s->t σ H Q->wpAny (model X.prog X.w) X.A (isTrue e X.env whole) (TP X pins σ Q) X.xe s
instance {X:Cx} {e:Expr} {t:TT}:CoeFun (PW X e t) (fun _=>
 ∀(whole:Sem Value) (pins:List (Addr×Obj)) (s:Shared) (σ:St) (H:Hp) (Q:Bool->Hp->Prop),Inv X pins σ H s->t σ H Q->wpAny (model X.prog X.w) X.A (isTrue e X.env whole) (TP X pins σ Q) X.xe s):=⟨PW.go⟩
theorem PW.pt {X:Cx} {e:Expr} {t:TT} (h:PW X e t):PT X e t:=.mk <| h _
structure PA (X:Cx) (es:List Expr) (t:TA):Prop where
 mk ::
 go :
 ∀(pos:Pos) (pins:List (Addr×Obj)) (s:Shared) (σ:St) (H:Hp) (Q:List V->Hp->Prop),Inv X pins σ H s->t σ H Q->wpAny (model X.prog X.w) X.A (spliced (backTo pos (starEach es X.env))) (AP X pins σ Q) X.xe s
instance {X:Cx} {es:List Expr} {t:TA}:CoeFun (PA X es t) (fun _=>
 ∀(pos:Pos) (pins:List (Addr×Obj)) (s:Shared) (σ:St) (H:Hp) (Q:List V->Hp->Prop),Inv X pins σ H s->t σ H Q->wpAny (model X.prog X.w) X.A (spliced (backTo pos (starEach es X.env))) (AP X pins σ Q) X.xe s):=⟨PA.go⟩
structure PS (X:Cx) (st:Stmt) (t:TS):Prop where
 mk ::
 go :
 ∀(pins:List (Addr×Obj)) (s:Shared) (σ:St) (H:Hp) (D:Ends),Inv X pins σ H s->t D σ H->wpAny (model X.prog X.w) X.A (exec st X.env) (SP X pins D) X.xe s
instance {X:Cx} {st:Stmt} {t:TS}:CoeFun (PS X st t) (fun _=>
 ∀(pins:List (Addr×Obj)) (s:Shared) (σ:St) (H:Hp) (D:Ends),Inv X pins σ H s->t D σ H->wpAny (model X.prog X.w) X.A (exec st X.env) (SP X pins D) X.xe s):=⟨PS.go⟩
structure xK (X:Cx) (st:List Stmt) (t:TS):Prop where
 mk ::
 go :
 ∀(pins:List (Addr×Obj)) (s:Shared) (σ:St) (H:Hp) (D:Ends),Inv X pins σ H s->t D σ H->wpAny (model X.prog X.w) X.A (execs st X.env) (SP X pins D) X.xe s
instance {X:Cx} {st:List Stmt} {t:TS}:CoeFun (xK X st t) (fun _=>
 ∀(pins:List (Addr×Obj)) (s:Shared) (σ:St) (H:Hp) (D:Ends),Inv X pins σ H s->t D σ H->wpAny (model X.prog X.w) X.A (execs st X.env) (SP X pins D) X.xe s):=⟨xK.go⟩
theorem cB {α:Type} {t:Sem α} {Q Q':α->Shared->Prop} {M:Model} {A:Around} {E:Value->Shared->Prop} {s:Shared} (h:wpAny M A t Q E s) (hQ:∀a s,Q a s->Q' a s):wpAny M A t Q' E s:=fV h hQ fun _ _ x=>x
section
variable {X:Cx}
def ue (i:Nat):TE:=fun σ H Q=>match σ[i]? with
 | some (some v)=>Q v H
 | _=>False
theorem ue.ex {i:Nat} {σ:St} {H:Hp} {Q:VK} (h:ue i σ H Q):∃v,σ[i]?=some (some v)/\Q v H:=by
 unfold ue at h
 split at h
 ·rename_i v e
  exact⟨v,e,h⟩
 ·exact h.elim
def tC (v:V):TE:=fun _ H Q=>Q v H
theorem V6 {i:Nat} {x:Str} {pos:Pos} (hN:X.N[i]?=some x) (hv:Vis X.env.scope x) (hd:(x==("__debug__" : Str))=false:=by decide) (hcd:(x==("__classdict__" : Str))=false:=by decide):PE X (.Name x pos) (ue i):=by
 refine .mk ?_
 intro pins s σ H Q I h
 obtain⟨v,e,h⟩:=ue.ex h
 obtain⟨m,hn,hl⟩:=I.loc
 obtain⟨u,r,l⟩:=hl i x v hN e hv
 have fin:EP X pins σ Q u s:=⟨v,H,I,r,h⟩
 rcases l with⟨hk,hm⟩ | ⟨hk,c,hc,hcell⟩
 ·exact wpAny_Name (wpAny_loadName_local I.ok.kind hk hn hm fin) hd
 ·rcases hk with hk | hk
  ·exact wpAny_Name (wpAny_loadName_cell I.ok.kind hk hc hcell fin) hd
  ·exact wpAny_Name (wpAny_loadName_free I.ok.kind hk hc hcell fin hcd) hd
theorem ao {i j pos}:PE X (.Constant (.int i) j pos) (tC (.int i)):=.mk <| fun _ _ _ H _ I h=>wpAny_Constant_int ⟨.int i,H,I.tok _,⟨_,rfl⟩,h⟩
theorem mR {b j pos}:PE X (.Constant (.bool b) j pos) (tC (.bl b)):=.mk <| fun _ _ _ H _ I h=>Constant_bool ⟨.bl b,H,I,rfl,h⟩
theorem dU {j pos}:PE X (.Constant .none j pos) (tC .non):=.mk <| fun _ _ _ H _ I h=>Constant_none ⟨.non,H,I,rfl,h⟩
theorem fX {x j pos}:PE X (.Constant (.str x) j pos) (tC (.str x)):=.mk <| fun _ _ _ H _ I h=>Calls.Constant_str ⟨.str x,H,I.tok _,⟨_,rfl⟩,h⟩
def Gl (X:Cx) (x:Str):Prop:=X.env.kindOf x=some .globalImplicit
theorem qu {E:Value->Shared->Prop} {pins:List (Addr×Obj)} {s:Shared} {σ:St} {H:Hp} {x:Str} {u:Value} {pos:Pos} {Q:Value->Shared->Prop} (I:Inv X pins σ H s) (hg:Gl X x) (hm:X.mg x=some u) (h:Q u s)
  (hd:(x==("__debug__" : Str))=false:=by decide):wpAny (model X.prog X.w) X.A (eval (.Name x pos) X.env) Q E s:=
 Calls.Name_function_global I.ok.kind hg (Calls.loadGlobal_global (by rw[I.ok.glob]; exact I.mod.glob.keeps I.bk) hm h) hd
theorem lA {E:Value->Shared->Prop} {pins:List (Addr×Obj)} {s:Shared} {σ:St} {H:Hp} {x:Str} {u:Value} {pos:Pos} {Q:Value->Shared->Prop} (I:Inv X pins σ H s) (hg:Gl X x) (hm:X.mg x=none) (hv:bootBuiltins x=some u) (h:Q u s)
  (hn:x ≠ "__name__" := by decide) (hd:(x==("__debug__" : Str))=false:=by decide):wpAny (model X.prog X.w) X.A (eval (.Name x pos) X.env) Q E s:=by
 obtain⟨mb,h1,h2⟩:=I.mod.blt
 exact Calls.Name_function_global I.ok.kind hg (Calls.loadGlobal_builtin (by rw[I.ok.glob]; exact I.mod.glob.keeps I.bk) hm (by rw[I.ok.blt]; exact h1.keeps I.bk) ((h2 x hn).trans hv) h) hd
theorem zR {x:Str} {v:V} {u:Value} {pos:Pos} (hg:Gl X x) (hm:X.mg x=some u) (r:RelV v u) (hd:(x==("__debug__" : Str))=false:=by decide):PE X (.Name x pos) (tC v):=
 .mk <| fun _ _ _ H _ I h=>qu I hg hm ⟨v,H,I,r,h⟩ hd
variable {a b:Expr} {ta tb:TE} {pos:Pos}
def tB (t:TE):TT:=fun σ H Q=>t σ H fun x H1=>∃c,x=.bl c/\Q c H1
theorem vd {e:Expr} {t:TE} (h:PE X e t) (he:∀whole,isTrue e X.env whole=(do let v <- whole; standAt e.pos; holding [v] (truthy v)):=by intro _; rfl):PT X e (tB t):=by
 refine .mk ?_
 intro pins s σ H Q I hw
 refine isTrue_plain (cB (h pins s σ H _ I hw) fun v s1 ⟨x,H1,I1,r1,q1⟩=>?_) (he _)
 obtain⟨d,rfl,q⟩:=q1
 cases r1
 exact JZ ⟨H1,I1,q⟩
variable {tA Z7:TT} {rest:List Expr}
def Yo (t u:TT):TT:=fun σ H Q=>t σ H fun c H1=>if c=true then u σ H1 Q else Q false H1
def tOr (t u:TT):TT:=fun σ H Q=>t σ H fun c H1=>if c=true then Q true H1 else u σ H1 Q
def Yl (t:TT):TT:=fun σ H Q=>t σ H fun c H1=>Q (!c) H1
theorem qe (ha:PT X a tA):PW X (.BoolOp .And [a] pos) tA:=by
 refine .mk ?_
 intro wh pins s σ H Q I h
 refine isTrue_and (cB (ha pins s σ H Q I h) fun c s1 e=>?_)
 cases c with
 | true=>exact isTrue_and_nil e
 | false=>exact e
theorem uZ (ha:PT X a tA):PW X (.BoolOp .Or [a] pos) tA:=by
 refine .mk ?_
 intro wh pins s σ H Q I h
 refine isTrue_or (cB (ha pins s σ H Q I h) fun c s1 e=>?_)
 cases c with
 | false=>exact isTrue_or_nil e
 | true=>exact e
theorem u_ (ha:PT X a tA) (hb:PW X (.BoolOp .And (b::rest) pos) Z7):PW X (.BoolOp .And (a::b::rest) pos) (Yo tA Z7):=by
 refine .mk ?_
 intro wh pins s σ H Q I h
 refine isTrue_and (cB (ha pins s σ H _ I h) fun c s1 qx=>?_)
 obtain⟨H1,I1,q1⟩:=qx
 cases c with
 | true=>exact hb wh pins s1 σ H1 Q I1 q1
 | false=>exact⟨H1,I1,q1⟩
theorem CZ (ha:PT X a tA) (hb:PW X (.BoolOp .Or (b::rest) pos) Z7):PW X (.BoolOp .Or (a::b::rest) pos) (tOr tA Z7):=by
 refine .mk ?_
 intro wh pins s σ H Q I h
 refine isTrue_or (cB (ha pins s σ H _ I h) fun c s1 qx=>?_)
 obtain⟨H1,I1,q1⟩:=qx
 cases c with
 | true=>exact⟨H1,I1,q1⟩
 | false=>exact hb wh pins s1 σ H1 Q I1 q1
theorem NB (ha:PT X a tA):PT X (.UnaryOp .Not a pos) (Yl tA):=by
 refine .mk ?_
 intro pins s σ H Q I h
 exact isTrue_not (ha pins s σ H (fun c H1=>Q (!c) H1) I h)
def Ur (ta tb:TE):TE:=fun σ H Q=>ta σ H fun x H1=>∃c,x=.bl c/\if c=true then tb σ H1 Q else Q (.bl false) H1
def Yj (ta tb:TE):TE:=fun σ H Q=>ta σ H fun x H1=>∃c,x=.bl c/\if c=true then Q (.bl true) H1 else tb σ H1 Q
def Yk (ta:TE):TE:=fun σ H Q=>ta σ H fun x H1=>∃c,x=.bl c/\Q (.bl (!c)) H1
theorem Ob {op} {t:TE} (h:PE X a t):PE X (.BoolOp op [a] pos) t:=.mk <| fun pins s σ H Q I hw=>BoolOp_one (h pins s σ H Q I hw)
theorem Og (ha:PE X a ta) (hb:PE X (.BoolOp .And (b::rest) pos) tb):PE X (.BoolOp .And (a::b::rest) pos) (Ur ta tb):=by
 refine .mk ?_
 intro pins s σ H Q I h
 refine BoolOp_and (cB (ha pins s σ H _ I h) fun v s1 qx=>?_)
 obtain⟨x,H1,I1,r1,q1⟩:=qx
 obtain⟨c,rfl,q1⟩:=q1
 cases r1
 refine JZ ?_
 cases c with
 | true=>exact hb pins s1 σ H1 Q I1 q1
 | false=>exact⟨.bl false,H1,I1,rfl,q1⟩
theorem Y4 (ha:PE X a ta) (hb:PE X (.BoolOp .Or (b::rest) pos) tb):PE X (.BoolOp .Or (a::b::rest) pos) (Yj ta tb):=by
 refine .mk ?_
 intro pins s σ H Q I h
 refine BoolOp_or (cB (ha pins s σ H _ I h) fun v s1 qx=>?_)
 obtain⟨x,H1,I1,r1,q1⟩:=qx
 obtain⟨c,rfl,q1⟩:=q1
 cases r1
 refine JZ ?_
 cases c with
 | false=>exact hb pins s1 σ H1 Q I1 q1
 | true=>exact⟨.bl true,H1,I1,rfl,q1⟩
def tIf (t:TT) (ta tb:TE):TE:=fun σ H Q=>t σ H fun c H1=>if c=true then ta σ H1 Q else tb σ H1 Q
theorem mQ {c:Expr} (hc:PT X c tA) (ha:PE X a ta) (hb:PE X b tb):PE X (.IfExp c a b pos) (tIf tA ta tb):=by
 refine .mk ?_
 intro pins s σ H Q I h
 refine wpAny_IfExp (cB (hc pins s σ H _ I h) fun d s1 qx=>?_)
 obtain⟨H1,I1,q1⟩:=qx
 cases d with
 | true=>exact ha pins s1 σ H1 Q I1 q1
 | false=>exact hb pins s1 σ H1 Q I1 q1
end
def gW (K:PySem.W.Frag) (H:Hp) (a:Addr) (xs:List V):Prop:=
 Rd H a (.lst xs) \/
  ∃(o:Obj) (its:Array Value) (n:Nat),K.lookup a=some o/\o.cls=.type "list" /\ o.dict=none/\o.data=.seq its n/\its.size<=sizeLine/\Vals xs its.toList
def cA (K:PySem.W.Frag) (H:Hp) (a:Addr) (xs:List V):Prop:=
 Rd H a (.tup xs) \/
  ∃(o:Obj) (its:Array Value) (n:Nat),K.lookup a=some o/\o.cls=.type "tuple" /\ o.data=.seq its n/\its.size<=sizeLine/\Vals xs its.toList
def ab_:Value->Option V
 | .none=>some .non
 | .bool b=>some (.bl b)
 | .int i _=>some (.int i)
 | .str x _=>some (.str x)
 | .bytes b _=>some (.Lx b)
 | .float b _=>some (.flt b)
 | .ref a=>some (.ref a)
 | .type n=>some (.ty n)
 | _=>none
theorem RelV.abs {x:V} {u:Value} (r:RelV x u):ab_ u=some x:=by
 cases x with
 | non=>cases r; rfl
 | bl _=>cases r; rfl
 | int _=>obtain⟨t,rfl⟩:=r; rfl
 | str _=>obtain⟨t,rfl⟩:=r; rfl
 | Lx _=>obtain⟨t,rfl⟩:=r; rfl
 | flt _=>obtain⟨t,rfl⟩:=r; rfl
 | ref _=>cases r; rfl
 | ty _=>cases r; rfl
theorem RelV.inj {x y:V} {u:Value} (r:RelV x u) (q:RelV y u):x=y:=Option.some.inj (r.abs.symm.trans q.abs)
theorem Vals.inj:∀{xs ys:List V} {us:List Value},Vals xs us->Vals ys us->xs=ys
 | _,_,_,.nil,.nil=>rfl
 | _,_,_,.cons r t,.cons r' t'=>by rw[r.inj r',Vals.inj t t']
section
variable {X:Cx} {pins:List (Addr×Obj)} {σ:St} {H:Hp} {s:Shared} {a:Addr} {xs ys:List V}
theorem gW.of {K:PySem.W.Frag} (h:H a=some (.lst xs)):gW K H a xs:=.inl (.inl h)
theorem cA.of {K:PySem.W.Frag} (h:H a=some (.tup xs)):cA K H a xs:=.inl (.inl h)
theorem Inv.list (I:Inv X pins σ H s) (h:gW X.K H a xs):∃its:List Value,Vals xs its/\PlainL s.heap a its.toArray/\xs.length<=sizeLine:=by
 rcases h with h | ⟨o,its,n,hk,hc,hd,hs,hz,r⟩
 ·obtain⟨z,its,n,r,e⟩:=h.ok I.hok
  exact⟨its,r,⟨_,n,e,rfl,rfl,rfl⟩,z⟩
 ·refine⟨its.toList,r,⟨o,n,I.Ph a o hk,hc,hd,by simpa using hs⟩,?_⟩
  have e:=r.length
  simp only[lQ] at e
  omega
theorem Inv.tuple (I:Inv X pins σ H s) (h:cA X.K H a xs):∃its:List Value,Vals xs its/\IsTup s.heap a its.toArray/\xs.length<=sizeLine:=by
 rcases h with h | ⟨o,its,n,hk,hc,hs,hz,r⟩
 ·obtain⟨z,its,r,p⟩:=h.ok I.hok
  exact⟨its,r,p,z⟩
 ·refine⟨its.toList,r,⟨o,I.Ph a o hk,hc,n,by simpa using hs⟩,?_⟩
  have e:=r.length
  simp only[lQ] at e
  omega
theorem Inv.O8 (I:Inv X pins σ H s) (h:gW X.K H a xs) (h':gW X.K H a ys):xs=ys:=by
 obtain⟨its,r,⟨o,n,e,_,_,d⟩,_⟩:=I.list h
 obtain⟨its',r',⟨o',n',e',_,_,d'⟩,_⟩:=I.list h'
 rw[e] at e'; cases e'
 rw[d] at d'
 injection d' with d1 _
 have:its=its':=by simpa using jl Array.toList d1
 subst this
 exact r.inj r'
theorem Inv.qQ (I:Inv X pins σ H s) (h:cA X.K H a xs) (h':cA X.K H a ys):xs=ys:=by
 obtain⟨its,r,⟨o,e,_,n,d⟩,_⟩:=I.tuple h
 obtain⟨its',r',⟨o',e',_,n',d'⟩,_⟩:=I.tuple h'
 rw[e] at e'; cases e'
 rw[d] at d'
 injection d' with d1 _
 have:its=its':=by simpa using jl Array.toList d1
 subst this
 exact r.inj r'
end
abbrev Cx.wish (X:Cx) (E:Value->Shared->Prop):Cx:={ X with xe:=E }
abbrev Cx.Xq (X:Cx):Cx:=X.wish fun _ _=>False
theorem Cx.Ok.wish {X:Cx} (ok:X.Ok) (E:Value->Shared->Prop):(X.wish E).Ok:=
 ⟨ok.mod,ok.kind,ok.glob,ok.blt,ok.above,ok.inj,ok.has,ok.cab,ok.hd,ok.frames,ok.Yr,ok.Zz,ok.bs,ok.Qy,ok.Gd,ok.Gp,ok.tH,ok.WK⟩
theorem Cx.Ok.lU {X:Cx} {E:Value->Shared->Prop} (ok:(X.wish E).Ok):X.Ok:=
 ⟨ok.mod,ok.kind,ok.glob,ok.blt,ok.above,ok.inj,ok.has,ok.cab,ok.hd,ok.frames,ok.Yr,ok.Zz,ok.bs,ok.Qy,ok.Gd,ok.Gp,ok.tH,ok.WK⟩
section
variable {X:Cx} {pins:List (Addr×Obj)} {σ:St} {H:Hp} {s:Shared} {E:Value->Shared->Prop}
theorem Inv.wish (I:Inv X pins σ H s) (E:Value->Shared->Prop):Inv (X.wish E) pins σ H s:=⟨I.ok.wish E,I.os,I.bare,I.base,I.loc,I.cell,I.free,I.j6,I.pin,I.hok,I.len⟩
theorem Inv.lU (I:Inv (X.wish E) pins σ H s):Inv X pins σ H s:=⟨I.ok.lU,I.os,I.bare,I.base,I.loc,I.cell,I.free,I.j6,I.pin,I.hok,I.len⟩
theorem SP.lU {D:Ends} {f:Flow} {s':Shared} (h:SP (X.wish E) pins D f s'):SP X pins D f s':=by
 cases f with
 | next=>obtain⟨σ',H',I,q⟩:=h; exact⟨σ',H',I.lU,q⟩
 | brk=>obtain⟨σ',H',I,q⟩:=h; exact⟨σ',H',I.lU,q⟩
 | cont=>obtain⟨σ',H',I,q⟩:=h; exact⟨σ',H',I.lU,q⟩
 | ret u=>obtain⟨v,σ',H',I,r,q⟩:=h; exact⟨v,σ',H',I.lU,r,q⟩
theorem xK.Xq {st:List Stmt} {t:TS} (h:xK X.Xq st t):xK X st t:=.mk <| fun pins s σ H D I hw=>
 fV (h pins s σ H D (I.wish _) hw) (fun _ _ q=>q.lU) fun _ _ z=>False.elim z
end
section
variable {X:Cx} {st:Stmt} {rest:List Stmt} {t u:TS} {e:Expr} {te:TE} {pos:Pos}
def Ul:TS:=fun D σ H=>D.nx σ H
def Mx (t u:TS):TS:=fun D σ H=>t { D with nx:=u D } σ H
theorem bT:xK X [] Ul:=.mk <| fun _ _ σ H _ I h=>yw ⟨σ,H,I,h⟩
theorem aq (h1:PS X st t) (h2:xK X rest u):xK X (st::rest) (Mx t u):=by
 refine .mk ?_
 intro pins s σ H D I h
 refine wpAny_execs_cons (cB (h1 pins s σ H { D with nx:=u D } I h) fun f s1 q=>?_)
 cases f with
 | next=>
  obtain⟨σ',H',I',q⟩:=q
  exact h2 pins s1 σ' H' D I' q
 | ret v=>exact q
 | brk=>exact q
 | cont=>exact q
theorem aJ (h1:PS X st t):xK X [st] t:=by
 refine .mk ?_
 intro pins s σ H D I h
 refine wpAny_execs_cons (cB (h1 pins s σ H D I h) fun f s1 q=>?_)
 cases f with
 | next=>exact yw q
 | ret v=>exact q
 | brk=>exact q
 | cont=>exact q
theorem Inv.quiet {pins:List (Addr×Obj)} {σ:St} {H:Hp} {s:Shared} (I:Inv X pins σ H s):interactive X.env=false:=by simp[interactive,I.ok.kind]
def Up (te:TE):TS:=fun D σ H=>te σ H fun _ H1=>D.nx σ H1
theorem nH (he:PE X e te) (hs:swapsWith e none pos.line X.env=pure false:=by rfl):PS X (.Expr e pos) (Up te):=by
 refine .mk ?_
 intro pins s σ H D I h
 exact wpAny_Expr_any (cB (he pins s σ H _ I h) fun v s1 ⟨x,H1,I1,r1,q1⟩=>⟨σ,H1,I1,q1⟩) I.quiet hs
def Yi (te:TE):TS:=fun D σ H=>te σ H D.rt
theorem aV (he:PE X e te):PS X (.Return (some e) pos) (Yi te):=by
 refine .mk ?_
 intro pins s σ H D I h
 exact wpAny_Return_some (cB (he pins s σ H _ I h) fun v s1 ⟨x,H1,I1,r1,q1⟩=>⟨x,σ,H1,I1,r1,q1⟩)
def Yh:TS:=fun D _ H=>D.rt .non H
def Q_ (c:TT) (t u:TS):TS:=fun D σ H=>c σ H fun b H1=>if b=true then t D σ H1 else u D σ H1
theorem dG {c:Expr} {a b:List Stmt} {tc:TT} (hc:PT X c tc) (ha:xK X a t) (hb:xK X b u):PS X (.If c a b pos) (Q_ tc t u):=by
 refine .mk ?_
 intro pins s σ H D I h
 refine wpAny_If (cB (hc pins s σ H _ I h) fun d s1 qx=>?_)
 obtain⟨H1,I1,q1⟩:=qx
 cases d with
 | true=>exact ha pins s1 σ H1 D I1 q1
 | false=>exact hb pins s1 σ H1 D I1 q1
end
abbrev TG:=V->St->Hp->(St->Hp->Prop)->Prop
abbrev QF:=List V->St->Hp->(St->Hp->Prop)->Prop
structure PG (X:Cx) (target:Expr) (t:TG):Prop where
 mk ::
 go :
 ∀(pins:List (Addr×Obj)) (s:Shared) (σ:St) (H:Hp) (v:V) (u:Value) (Q:St->Hp->Prop),Inv X pins σ H s->RelV v u->t v σ H Q ->
  wpAny (model X.prog X.w) X.A (assign target X.env u) (fun _ s'=>∃σ' H',Inv X pins σ' H' s'/\Q σ' H') X.xe s
instance {X:Cx} {target:Expr} {t:TG}:CoeFun (PG X target t) (fun _=>
 ∀(pins:List (Addr×Obj)) (s:Shared) (σ:St) (H:Hp) (v:V) (u:Value) (Q:St->Hp->Prop),Inv X pins σ H s->RelV v u->t v σ H Q ->
  wpAny (model X.prog X.w) X.A (assign target X.env u) (fun _ s'=>∃σ' H',Inv X pins σ' H' s'/\Q σ' H') X.xe s):=⟨PG.go⟩
structure W9 (X:Cx) (ts:List Expr) (t:QF):Prop where
 mk ::
 go :
 ∀(pins:List (Addr×Obj)) (s:Shared) (σ:St) (H:Hp) (vs:List V) (us:List Value) (Q:St->Hp->Prop),Inv X pins σ H s->Vals vs us->t vs σ H Q ->
  wpAny (model X.prog X.w) X.A (assignInOrder ((assignEach ts X.env).map (·.2)) us) (fun _ s'=>∃σ' H',Inv X pins σ' H' s'/\Q σ' H') X.xe s
instance {X:Cx} {ts:List Expr} {t:QF}:CoeFun (W9 X ts t) (fun _=>
 ∀(pins:List (Addr×Obj)) (s:Shared) (σ:St) (H:Hp) (vs:List V) (us:List Value) (Q:St->Hp->Prop),Inv X pins σ H s->Vals vs us->t vs σ H Q ->
  wpAny (model X.prog X.w) X.A (assignInOrder ((assignEach ts X.env).map (·.2)) us) (fun _ s'=>∃σ' H',Inv X pins σ' H' s'/\Q σ' H') X.xe s):=⟨W9.go⟩
abbrev Ln:=V->V->V->Hp->(Hp->Prop)->Prop
structure QH (X:Cx) (t:Ln):Prop where
 mk ::
 go :
 ∀(pins:List (Addr×Obj)) (s:Shared) (σ:St) (H:Hp) (o i v:V) (ov iv u:Value) (Q:Hp->Prop),Inv X pins σ H s->RelV o ov->RelV i iv->RelV v u->t o i v H Q ->
  wpAny (model X.prog X.w) X.A (setItem ov iv u) (fun _ s'=>∃H',Inv X pins σ H' s'/\Q H') X.xe s
instance {X:Cx} {t:Ln}:CoeFun (QH X t) (fun _=>
 ∀(pins:List (Addr×Obj)) (s:Shared) (σ:St) (H:Hp) (o i v:V) (ov iv u:Value) (Q:Hp->Prop),Inv X pins σ H s->RelV o ov->RelV i iv->RelV v u->t o i v H Q ->
  wpAny (model X.prog X.w) X.A (setItem ov iv u) (fun _ s'=>∃H',Inv X pins σ H' s'/\Q H') X.xe s):=⟨QH.go⟩
abbrev XC:=V->V->Hp->VK->Prop
def PIp (X:Cx) (op:Operator) (t:XC):Prop:=
 ∀(pins:List (Addr×Obj)) (s:Shared) (σ:St) (H:Hp) (x y:V) (v u:Value) (Q:VK),Inv X pins σ H s->RelV x v->RelV y u->t x y H Q ->
  wpAny (model X.prog X.w) X.A (inplaceOp op v u) (EP X pins σ Q) X.xe s
section
variable {X:Cx} {pos:Pos}
def d8 (i:Nat):TG:=fun v σ H Q=>Q (σ.set i (some v)) H
theorem aF {i:Nat} {x:Str} (hN:X.N.Nodup) (hi:X.N[i]?=some x) (hx:Loc X.env.scope x) (hf:X.fn x=true\/X.env.scope.names.lookup x=some .local:=by first | exact .inl rfl | exact .inr rfl | assumption):PG X (.Name x pos) (d8 i):=by
 refine .mk ?_
 intro pins s σ H v u Q I r h
 exact wpAny_assign_Name (fU I hN hi hx r (fun s' I'=>⟨_,H,I',h⟩) hf)
def xr:QF:=fun vs σ H Q=>match vs with
 | []=>Q σ H
 | _=>False
theorem xr.ex {vs:List V} {σ:St} {H:Hp} {Q:St->Hp->Prop} (h:xr vs σ H Q):vs=[]/\Q σ H:=by
 cases vs with
 | nil=>exact⟨rfl,h⟩
 | cons a b=>exact h.elim
def je (t:TG) (u:QF):QF:=fun vs σ H Q=>match vs with
 | v::r=>t v σ H fun σ' H'=>u r σ' H' Q
 | []=>False
theorem je.ex {t:TG} {u:QF} {vs:List V} {σ:St} {H:Hp} {Q:St->Hp->Prop} (h:je t u vs σ H Q):∃v r,vs=v::r/\t v σ H fun σ' H'=>u r σ' H' Q:=by
 cases vs with
 | nil=>exact h.elim
 | cons a b=>exact⟨a,b,rfl,h⟩
theorem bI:W9 X [] xr:=by
 refine .mk ?_
 intro pins s σ H vs us Q I r h
 obtain⟨e,h⟩:=xr.ex h
 subst e
 cases r
 exact assignInOrder_nil ⟨σ,H,I,h⟩
theorem aD {e:Expr} {es:List Expr} {t:TG} {u:QF} (h1:PG X e t) (h2:W9 X es u)
  (hs:(assignEach (e::es) X.env).map (·.2)=assign e X.env::(assignEach es X.env).map (·.2):=by rfl):W9 X (e::es) (je t u):=by
 refine .mk ?_
 intro pins s σ H vs us Q I r h
 obtain⟨v,vr,e1,h⟩:=je.ex h
 subst e1
 cases r with
 | cons r rr=>
  rw[hs]
  refine assignInOrder_cons (cB (h1 pins s σ H _ _ _ I r h) fun _ s1 qx=>?_)
  obtain⟨σ1,H1,I1,q1⟩:=qx
  exact h2 pins s1 σ1 H1 _ _ Q I1 rr q1
def Gj (K:PySem.W.Frag) (n:Nat) (t:QF):TG:=fun v σ H Q=>∃a xs,v=.ref a/\cA K H a xs/\xs.length=n/\t xs σ H Q
theorem V5 {es:List Expr} {k:Nat} {t:QF} {n:Nat} (hc:X.calm=true) (h:W9 X es t)
  (hn:(assignEach es X.env).length=n:=by rfl) (hst:(assignEach es X.env).findIdx? (·.1)=none:=by rfl):PG X (.Tuple es k pos) (Gj X.K n t):=by
 refine .mk ?_
 intro pins s σ H v u Q I r hw
 obtain⟨a,xs,e1,hq,hl,hw⟩:=hw
 subst e1
 cases r
 obtain⟨its,rv,ht,hz⟩:=I.tuple hq
 refine assign_Tuple_tuple (I.ok.hd hc) ht (by simp[hn,<- hl,rv.length]) hst fun h' hx=>?_
 have I1:Inv X pins σ H { s with heap:=h' }:=I.kept (t':=s.toks) fun b o e=>hx b o (gk (b_ e)) e
 exact h pins _ σ H xs _ Q I1 (by simpa using rv) hw
def Zu (to ti:TE) (t:Ln):TG:=fun v σ H Q=>to σ H fun o H1=>ti σ H1 fun i H2=>t o i v H2 fun H3=>Q σ H3
theorem Oa {o i:Expr} {to ti:TE} {t:Ln} (ho:PE X o to) (hi:PE X i ti) (hs:QH X t)
  (ha:∀v,assign (.Subscript o i pos) X.env v=(do
   let ov <- holding [v] (eval o X.env)
   let iv <- holding [v,ov] (eval i X.env)
   standAt pos
   holding [v,ov,iv] (setItem ov iv v)
   release [v,ov,iv] []):=by intro _; rfl):PG X (.Subscript o i pos) (Zu to ti t):=by
 refine .mk ?_
 intro pins s σ H v u Q I r h
 rw[ha]
 refine aN (oO (cB (ho pins s σ H _ I h) fun ov s1 qx=>?_))
 obtain⟨x,H1,I1,r1,q1⟩:=qx
 refine aN (oO (cB (hi pins s1 σ H1 _ I1 q1) fun iv s2 qx=>?_))
 obtain⟨y,H2,I2,r2,q2⟩:=qx
 refine aN (wV (aN (oO (cB (hs pins s2 σ H2 x y v ov iv u _ I2 r1 r2 r q2) fun _ s3 qx=>?_))))
 obtain⟨H3,I3,q3⟩:=qx
 exact wpAny_release ⟨σ,H3,I3,q3⟩
def JK (te:TE) (g:TG):TS:=fun D σ H=>te σ H fun x H1=>g x σ H1 D.nx
theorem dN {tg e:Expr} {te:TE} {g:TG} (he:PE X e te) (hg:PG X tg g) (hs:swapsWithSole [tg] e pos.line X.env=pure false:=by rfl) (hw:swappedStores [tg] e X.env=pure none:=by rfl)
  (h1:(assignEach [tg] X.env).map (·.2)=[assign tg X.env]:=by rfl):PS X (.Assign [tg] e pos) (JK te g):=by
 refine .mk ?_
 intro pins s σ H D I h
 refine wpAny_Assign_stores (cB (he pins s σ H _ I h) fun v s1 ⟨x,H1,I1,r1,q1⟩=>?_) hs hw
 rw[h1]
 exact cB (hg pins s1 σ H1 x v _ I1 r1 q1) fun _ s2 q=>q
theorem a_ {i:Nat} {x:Str} {e:Expr} {te:TE} {pos':Pos} (hN:X.N.Nodup) (hi:X.N[i]?=some x) (hx:Loc X.env.scope x) (he:PE X e te) (hs:swapsWith e (some (.Name x pos')) pos.line X.env=pure false:=by rfl) (hf:X.fn x=true\/X.env.scope.names.lookup x=some .local:=by first | exact .inl rfl | exact .inr rfl | assumption) :
  PS X (.Assign [.Name x pos'] e pos) (JK te (d8 i)):=by
 refine .mk ?_
 intro pins s σ H D I h
 refine wpAny_Assign_Name (cB (he pins s σ H _ I h) fun v s1 ⟨y,H1,I1,r1,q1⟩=>?_) hs
 exact fU I1 hN hi hx r1 (fun s2 I2=>⟨_,H1,I2,q1⟩) hf
def Q8 (i j:Nat) (ta:TA):TS:=fun D σ H=>ta σ H fun vs H1=>∃v w,vs=[v,w]/\D.nx ((σ.set i (some v)).set j (some w)) H1
theorem vg {i j:Nat} {x y:Str} {a b:Expr} {ta:TA} {px py pt:Pos} {kt k2 VV} (hc:X.calm=true) (hN:X.N.Nodup) (hi:X.N[i]?=some x) (hj:X.N[j]?=some y) (hij:i≠j)
  (hx:X.env.scope.names.lookup x=some .local) (hy:X.env.scope.names.lookup y=some .local) (ha:PA X [a,b] ta)
  (hw:swappedStores [.Tuple [.Name x px,.Name y py] kt pt] (.Tuple [a,b] k2 VV) X.env=pure (some [x,y]))
  (hs:swapsWithSole [.Tuple [.Name x px,.Name y py] kt pt] (.Tuple [a,b] k2 VV) pos.line X.env=pure false:=by rfl) :
  PS X (.Assign [.Tuple [.Name x px,.Name y py] kt pt] (.Tuple [a,b] k2 VV) pos) (Q8 i j ta):=by
 refine .mk ?_
 intro pins s σ H D I h
 rw[exec_Assign_arm]
 refine aN (wV ?_)
 rw[hs]
 refine aN (bK ?_)
 rw[aK (by decide)]
 refine aN (Tuple_ (cB (ha _ pins s σ H _ I h) fun us s1 qx=>?_))
 obtain⟨vs,H1,I1,r1,q1⟩:=qx
 obtain⟨v,w,e1,q1⟩:=q1
 subst e1
 obtain⟨u1,u2,rfl,rv,Rj⟩:∃u1 u2,us=[u1,u2]/\RelV v u1/\RelV w u2:=by
  cases r1 with
  | cons p q=>
   cases q with
   | cons p' q'=>
    cases q'
    exact⟨_,_,rfl,p,p'⟩
 refine q_ ?_ (by show 2<=sizeLine; decide)
 have I2:Inv X pins σ H1 { s1 with heap:=s1.heap.push { cls:=.type "tuple",data:=.seq [u1,u2].toArray } }:=I1.kept (t':=s1.toks) fun b o e=>gb _ e
 rw[hw]
 refine aN (bK ?_)
 show wpAny (model X.prog X.w) X.A (do rule "assign.swapped-stores"; let items <- unpackItems (.ref s1.heap.objs.size) 2 none; assignInOrder [fun v=>bindName X.env y v,fun v=>bindName X.env x v] items.reverse; pure Flow.next) _ _ _
 refine aN (uQ (aN (unpackItems_tuple (items:=#[u1,u2]) (I.ok.hd hc) (IsTup.new s1.heap _) fun h' hx'=>?_)))
 have I3:=I2.kept (h':=h') (t':=s1.toks) fun b o e=>hx' b o (gk (b_ e)) e
 show wpAny _ _ (assignInOrder [fun v=>bindName X.env y v,fun v=>bindName X.env x v] [u2,u1] >>= fun _=>pure Flow.next) _ _ _
 refine aN (assignInOrder_cons (CJ (fU I3 hN hj (.inl hy) Rj (fun s2 I4=>?_) (.inr hy))))
 refine assignInOrder_cons (CJ (fU I4 hN hi (.inl hx) rv (fun s3 I5=>assignInOrder_nil (bK ?_)) (.inr hx)))
 rw[List.set_comm _ _ (Ne.symm hij)] at I5
 exact⟨_,H1,I5,q1⟩
def Yn (i:Nat) (te:TE) (ti:XC):TS:=fun D σ H=>∃x,σ[i]?=some (some x)/\te σ H fun y H1=>ti x y H1 fun z H2=>D.nx (σ.set i (some z)) H2
theorem vh {i:Nat} {x:Str} {e:Expr} {te:TE} {op:Operator} {ti:XC} {pos':Pos} (hN:X.N.Nodup) (hi:X.N[i]?=some x) (hx:Loc X.env.scope x) (he:PE X e te) (ho:PIp X op ti) (hf:X.fn x=true\/X.env.scope.names.lookup x=some .local:=by first | exact .inl rfl | exact .inr rfl | assumption) :
  PS X (.AugAssign (.Name x pos') op e pos) (Yn i te ti):=by
 refine .mk ?_
 intro pins s σ H D I h
 obtain⟨v,e1,h⟩:=h
 obtain⟨m,hn,hl⟩:=I.loc
 have vis:Vis X.env.scope x:=by rcases hx with k | k; exact .inl k; exact .inr (.inl k)
 obtain⟨u,r,l⟩:=hl i x v hi e1 vis
 refine wpAny_AugAssign_Name ?_
 have go:wpAny (model X.prog X.w) X.A (eval e X.env) (fun w s₂=>wpAny (model X.prog X.w) X.A (inplaceOp op u w) (fun r s₃=>wpAny (model X.prog X.w) X.A (storeName X.env x r) (fun _=>SP X pins D .next) X.xe s₃) X.xe s₂) X.xe s:=by
  refine cB (he pins s σ H _ I h) fun w s1 qx=>?_
  obtain⟨y,H1,I1,r1,q1⟩:=qx
  refine cB (ho pins s1 σ H1 v y u w _ I1 r r1 q1) fun z s2 qx=>?_
  obtain⟨zv,H2,I2,r2,q2⟩:=qx
  exact fU I2 hN hi hx r2 (fun s3 I3=>⟨_,H2,I3,q2⟩) hf
 rcases l with⟨hk,hm⟩ | ⟨hk,c,hc,hcell⟩
 ·exact wpAny_loadName_local I.ok.kind hk hn hm go
 ·rcases hk with hk | hk
  ·exact wpAny_loadName_cell I.ok.kind hk hc hcell go
  ·rcases hx with k | k
   ·have:X.env.scope.names.lookup x=some .free:=hk
    rw[k] at this; cases this
   ·have:X.env.scope.names.lookup x=some .free:=hk
    rw[k] at this; cases this
def Uq (to ti te:TE) (Q7:V->V->Hp->VK->Prop) (Z6:XC) (Q6:Ln):TS:=fun D σ H=>to σ H fun o H1=>ti σ H1 fun i H2=>Q7 o i H2 fun x H3=>te σ H3 fun y H4=>Z6 x y H4 fun z H5=>Q6 o i z H5 fun H6=>D.nx σ H6
def ZS (X:Cx) (t:V->V->Hp->VK->Prop):Prop:=
 ∀(pins:List (Addr×Obj)) (s:Shared) (σ:St) (H:Hp) (o i:V) (ov iv:Value) (Q:VK),Inv X pins σ H s->RelV o ov->RelV i iv->t o i H Q ->
  wpAny (model X.prog X.w) X.A (getItem ov iv) (EP X pins σ Q) X.xe s
theorem RG {o i e:Expr} {to ti te:TE} {Q7:V->V->Hp->VK->Prop} {Z6:XC} {Q6:Ln} {op:Operator} {tpos:Pos} (ho:PE X o to) (hi:PE X i ti) (hg:ZS X Q7) (he:PE X e te) (hp:PIp X op Z6) (hs:QH X Q6)
  (ha:∀ov iv new,augStore i ov iv new=(do holding [new,ov,iv] (setItem ov iv new); release [new,ov,iv] []; pure .next):=by intros; rfl):PS X (.AugAssign (.Subscript o i tpos) op e pos) (Uq to ti te Q7 Z6 Q6):=by
 refine .mk ?_
 intro pins s σ H D I h
 refine wpAny_AugAssign_SubscriptAny (cB (ho pins s σ H _ I h) fun ov s1 ⟨x1,H1,I1,r1,q1⟩=>?_) ha
 refine cB (hi pins s1 σ H1 _ I1 q1) fun iv s2 qx=>?_
 obtain⟨x2,H2,I2,r2,q2⟩:=qx
 refine cB (hg pins s2 σ H2 x1 x2 ov iv _ I2 r1 r2 q2) fun old s3 qx=>?_
 obtain⟨x3,H3,I3,r3,q3⟩:=qx
 refine cB (he pins s3 σ H3 _ I3 q3) fun v s4 qx=>?_
 obtain⟨x4,H4,I4,r4,q4⟩:=qx
 refine cB (hp pins s4 σ H4 x3 x4 old v _ I4 r3 r4 q4) fun new s5 qx=>?_
 obtain⟨x5,H5,I5,r5,q5⟩:=qx
 exact cB (hs pins s5 σ H5 x1 x2 x5 ov iv new _ I5 r1 r2 r5 q5) fun _ s6 ⟨H6,I6,q6⟩=>⟨σ,H6,I6,q6⟩
def ipI (f:Int->Int->Int):XC:=fun x y H Q=>∃i j,x=.int i/\y=.int j/\Q (.int (f i j)) H
theorem Gh:PIp X .Add (ipI fun i j=>i+j):=by
 intro pins s σ H x y v u Q I r1 r2 h
 obtain⟨i,j,e1,e2,q⟩:=h
 subst e1; subst e2
 obtain⟨t,rfl⟩:=r1
 obtain⟨t',rfl⟩:=r2
 exact iadd_int ⟨.int _,H,I.tok _,⟨_,rfl⟩,q⟩
theorem Gg:PIp X .Sub (ipI fun i j=>i-j):=by
 intro pins s σ H x y v u Q I r1 r2 h
 obtain⟨i,j,e1,e2,q⟩:=h
 subst e1; subst e2
 obtain⟨t,rfl⟩:=r1
 obtain⟨t',rfl⟩:=r2
 exact isub_int ⟨.int _,H,I.tok _,⟨_,rfl⟩,q⟩
end
section
variable {X:Cx} {pos:Pos}
def Vu (c:TT) (tb:TS):TS:=fun D σ H=>∃W:Nat->St->Hp->Prop,(∃m,W m σ H)/\∀m σ H,W m σ H ->
 c σ H fun b H1=>if b=true then ∃N:St->Hp->Prop,(∀σ' H',N σ' H'->∃m',m'<m/\W m' σ' H')/\tb { D with nx:=N,ct:=N,bk:=D.nx } σ H1 else D.nx σ H1
theorem Dc {c:Expr} {body:List Stmt} {tc:TT} {tb:TS} (hp:PassesOwn (model X.prog X.w) X.A X.env X.xe) (hc:PT X c tc) (hb:xK X body tb):PS X (.While c body [] pos) (Vu tc tb):=by
 refine .mk ?_
 intro pins s σ H D I h
 obtain⟨W,⟨m0,w0⟩,turn⟩:=h
 refine wpAny_While (codeAny_whileLoop (fun n s'=>∃σ' H',Inv X pins σ' H' s'/\W n σ' H') ?_ m0 ⟨σ,H,I,w0⟩)
 rintro n s1 ⟨σ1,H1,I1,w1⟩
 refine Fv hp (cB (hc pins s1 σ1 H1 _ I1 (turn n σ1 H1 w1)) fun b s2 qx=>?_)
 obtain⟨H2,I2,q2⟩:=qx
 cases b with
 | true=>
  obtain⟨N,hN,q2⟩:=q2
  rw[aM rfl]
  refine Fv hp (cB (hb pins s2 σ1 H2 _ I2 q2) fun f s3 q3=>?_)
  cases f with
  | next=>
   obtain⟨σ3,H3,I3,n3⟩:=q3
   obtain⟨m',hm,w3⟩:=hN σ3 H3 n3
   exact⟨m',hm,σ3,H3,I3,w3⟩
  | cont=>
   obtain⟨σ3,H3,I3,n3⟩:=q3
   obtain⟨m',hm,w3⟩:=hN σ3 H3 n3
   exact⟨m',hm,σ3,H3,I3,w3⟩
  | brk=>exact q3
  | ret v=>exact q3
 | false=>
  rw[aK mO]
  exact yw ⟨σ1,H2,I2,q2⟩
end
structure It where
 go:Nat->Hp->Prop
 xO:Nat->Hp->V->Hp->Prop
 stop:Nat->Hp->Prop
def ie (X:Cx) (pins:List (Addr×Obj)) (H:Hp) (b:Addr):Prop:=
 H b=none/\b≠X.env.locals/\b∉X.fs/\(b∈X.ex\/X.s₀.heap.objs.size<=b)/\(∀x c,X.env.cells.lookup x=some c->c≠b)/\∀p∈X.pn++pins,p.1≠b
theorem Inv.xF {X:Cx} {pins:List (Addr×Obj)} {σ:St} {H H':Hp} {s:Shared} {b:Addr} (I:Inv X pins σ H s) (hb:s.heap.objs.size<=b) (hn:H' b=none):ie X pins H' b:=by
 refine⟨hn,Cz (jV I.lt hb),I.aa8 hb,.inr (nR I.sz hb),fun x c e z=>?_,fun p hp z=>?_⟩
 ·obtain⟨v,q⟩:=I.cell x c e
  exact absurd (jV q.lt (by rw[z]; exact hb)) (sV _)
 ·exact absurd (jV (b_ (I.pin p hp).1) (by rw[z]; exact hb)) (sV _)
structure Turn (P:Program) (w:World) (K:PySem.W.Frag) (tg:Expr) (J:It) (fp:List Addr) (it:Addr) (tn:Nat->Heap->Prop):Prop where
 mem:it∈fp
 obj:∀i h,tn i h->∀b∈fp,∃o,h.get? b=some o/\∀v,o.data≠.cell v
 keep:∀i h h',tn i h->(∀b∈fp,∀o,h.get? b=some o->h'.get? b=some o)->tn i h'
 item:∀(X:Cx),X.prog=P->X.w=w->X.K=K->X.calm=true->∀(i:Nat) (pins:List (Addr×Obj)) (s:Shared) (σ:St) (H:Hp) (E:Value->Shared->Prop),Inv X pins σ H s->(∀b∈fp,ie X pins H b)->tn i s.heap->J.go i H ->
  wpAny (model P w) X.A (pyNext (.ref it)) (fun r s1=>∃u,r=some u /\
   wpAny (model P w) X.A (letOwnedTupleGo tg (.ref it) u) (fun _ s2=>∃x H',Inv X pins σ H' s2/\RelV x u/\J.xO i H x H'/\tn (i+1) s2.heap/\∀b∈fp,H' b=none) E s1) E s
 done:∀(X:Cx),X.prog=P->X.w=w->X.K=K->X.calm=true->∀(i:Nat) (pins:List (Addr×Obj)) (s:Shared) (σ:St) (H:Hp) (E:Value->Shared->Prop),Inv X pins σ H s->(∀b∈fp,ie X pins H b)->tn i s.heap->J.stop i H ->
  wpAny (model P w) X.A (pyNext (.ref it)) (fun r s1=>r=none/\Inv X pins σ H s1) E s
 self:∀(A:Around) (i:Nat) (s:Shared) (Q:Value->Shared->Prop) (E:Value->Shared->Prop),tn i s.heap->Q (.ref it) s->wpAny (model P w) A (pyIter (.ref it)) Q E s
abbrev TI:=St->Hp->(It->Hp->Prop)->Prop
def PIE (X:Cx) (pins:List (Addr×Obj)) (σ:St) (tg:Expr) (R:It->Hp->Prop) (itv:Value) (s2:Shared):Prop:=
 ∃(it:Addr) (fp:List Addr) (tn:Nat->Heap->Prop) (J:It) (H':Hp),itv=.ref it/\Inv X pins σ H' s2/\Turn X.prog X.w X.K tg J fp it tn/\tn 0 s2.heap/\(∀b∈fp,ie X pins H' b)/\R J H'
structure PI (X:Cx) (tg iter:Expr) (wi:TI):Prop where
 mk ::
 go :
 ∀(pins:List (Addr×Obj)) (s:Shared) (σ:St) (H:Hp) (R:It->Hp->Prop),Inv X pins σ H s->wi σ H R ->
  wpAny (model X.prog X.w) X.A (eval iter X.env) (fun v s1=>wpAny (model X.prog X.w) X.A (pyIter v) (PIE X pins σ tg R) X.xe s1) X.xe s
instance {X:Cx} {tg iter:Expr} {wi:TI}:CoeFun (PI X tg iter wi) (fun _=>
 ∀(pins:List (Addr×Obj)) (s:Shared) (σ:St) (H:Hp) (R:It->Hp->Prop),Inv X pins σ H s->wi σ H R ->
  wpAny (model X.prog X.w) X.A (eval iter X.env) (fun v s1=>wpAny (model X.prog X.w) X.A (pyIter v) (PIE X pins σ tg R) X.xe s1) X.xe s):=⟨PI.go⟩
theorem I_ {M:Model} {A:Around} {E:Value->Shared->Prop} {s:Shared} {tg:Expr} {it:Addr} {u:Value} {o:Obj} {n:String} {vs:Array Value} {Q:Unit->Shared->Prop} (ho:s.heap.get? it=some o) (hc:o.cls=.type n) (hd:o.data=.fields vs)
  (hn:["enumerate","zip","dict_itemiterator","dict_reverseitemiterator","odict_iterator","itertools.zip_longest","itertools.pairwise"].contains n=false) (hQ:Q () s):wpAny M A (letOwnedTupleGo tg (.ref it) u) Q E s:=by
 unfold letOwnedTupleGo
 cases tg <;> first
  | exact bK hQ
  | (cases u <;> first
    | exact bK hQ
    | (refine aN (wpAny_load ho ?_)
       rw[hc,hd]
       show wpAny M A (if(["enumerate","zip","dict_itemiterator","dict_reverseitemiterator","odict_iterator","itertools.zip_longest","itertools.pairwise"].contains n&&vs[0]?==some (rawInt _))=true then _ else _) Q E s
       rw[aK (by intro h; rw[hn,Bool.false_and] at h; cases h)]
       exact bK hQ))
def Vi (K:PySem.W.Frag) (a:Addr):It:=
 ⟨fun i H=>∃xs x,gW K H a xs/\xs[i]?=some x,fun i H x H'=>H'=H/\∀xs,gW K H a xs->xs[i]?=some x,fun i H=>∃xs,gW K H a xs/\xs.length<=i⟩
def Vh (K:PySem.W.Frag) (a:Addr):It:=
 ⟨fun i H=>∃xs x,cA K H a xs/\xs[i]?=some x,fun i H x H'=>H'=H/\∀xs,cA K H a xs->xs[i]?=some x,fun i H=>∃xs,cA K H a xs/\xs.length<=i⟩
def LR (lo:Int) (n:Nat):It:=⟨fun i _=>i<n,fun i H x H'=>H'=H/\x=.int (lo+i),fun i _=>n<=i⟩
theorem JF {P:Program} {w:World} {K:PySem.W.Frag} {tg:Expr} (a it:Addr):Turn P w K tg (Vi K a) [it] it (fun i h=>h.IsListIter it a i) where
 mem:=by simp
 obj:=fun i h st b hb=>by
  have e:b=it:=by simpa using hb
  subst e
  obtain⟨o,e,c,d⟩:=st
  exact⟨o,e,fun v z=>by rw[d] at z; cases z⟩
 keep:=fun i h h' st k=>st.at fun o e=>k it (by simp) o e
 item:=by
  intro X hP hw hK hc i pins s σ H E I hf st hg
  subst hP hw hK
  obtain⟨xs,x,hq,hx⟩:=hg
  obtain⟨its,rv,p,hz⟩:=I.list hq
  obtain⟨u,hu,ru⟩:=rv.get hx
  obtain⟨f0,f1,f2,f3,f4,f5⟩:=hf it (by simp)
  refine wpAny_pyNext_list_item st p.isList (x:=u) (by simpa using hu) fun h' st' sb=>?_
  have I1:Inv X pins σ H { s with heap:=h' }:=I.turned (t':=s.toks) (fun b o hb e=>(sb.2 b hb).trans e) f0 f1 f3 f4 f5
  obtain⟨o,e,c,d⟩:=id st'
  exact⟨u,rfl,I_ (s:={ s with heap:=h' }) e c d (by decide) ⟨x,H,I1,ru,⟨rfl,fun ys hy=>by rw[I.O8 hy hq]; exact hx⟩,st',fun b hb=>(hf b hb).1⟩⟩
 done:=by
  intro X hP hw hK hc i pins s σ H E I hf st hg
  subst hP hw hK
  obtain⟨xs,hq,hx⟩:=hg
  obtain⟨its,rv,p,hz⟩:=I.list hq
  obtain⟨f0,f1,f2,f3,f4,f5⟩:=hf it (by simp)
  have hl:=rv.length
  exact wpAny_pyNext_list_end (I.ok.hd hc) st p.isList (by simp; omega) fun h' eb=>⟨rfl,I.turned (t':=s.toks) (fun b o hb e=>eb b o hb e) f0 f1 f3 f4 f5⟩
 self:=fun _ _ _ _ _ st h=>wpAny_pyIter_listiter st h
theorem Eu {P:Program} {w:World} {K:PySem.W.Frag} {tg:Expr} (a it:Addr):Turn P w K tg (Vh K a) [it] it (fun i h=>h.IsTupleIter it a i) where
 mem:=by simp
 obj:=fun i h st b hb=>by
  have e:b=it:=by simpa using hb
  subst e
  obtain⟨o,e,c,d⟩:=st
  exact⟨o,e,fun v z=>by rw[d] at z; cases z⟩
 keep:=fun i h h' st k=>st.at fun o e=>k it (by simp) o e
 item:=by
  intro X hP hw hK hc i pins s σ H E I hf st hg
  subst hP hw hK
  obtain⟨xs,x,hq,hx⟩:=hg
  obtain⟨its,rv,p,hz⟩:=I.tuple hq
  obtain⟨u,hu,ru⟩:=rv.get hx
  obtain⟨f0,f1,f2,f3,f4,f5⟩:=hf it (by simp)
  refine wpAny_pyNext_tuple_item st (show s.heap.IsTuple a its.toArray from p) (x:=u) (by simpa using hu) fun h' st' sb=>?_
  have I1:Inv X pins σ H { s with heap:=h' }:=I.turned (t':=s.toks) (fun b o hb e=>(sb.2 b hb).trans e) f0 f1 f3 f4 f5
  obtain⟨o,e,c,d⟩:=id st'
  exact⟨u,rfl,I_ (s:={ s with heap:=h' }) e c d (by decide) ⟨x,H,I1,ru,⟨rfl,fun ys hy=>by rw[I.qQ hy hq]; exact hx⟩,st',fun b hb=>(hf b hb).1⟩⟩
 done:=by
  intro X hP hw hK hc i pins s σ H E I hf st hg
  subst hP hw hK
  obtain⟨xs,hq,hx⟩:=hg
  obtain⟨its,rv,p,hz⟩:=I.tuple hq
  obtain⟨f0,f1,f2,f3,f4,f5⟩:=hf it (by simp)
  have hl:=rv.length
  exact wpAny_pyNext_tuple_end (I.ok.hd hc) st (show s.heap.IsTuple a its.toArray from p) (by simp; omega) fun h' eb=>⟨rfl,I.turned (t':=s.toks) (fun b o hb e=>eb b o hb e) f0 f1 f3 f4 f5⟩
 self:=fun _ _ _ _ _ st h=>wpAny_pyIter_tupleiter st h
theorem Ew {P:Program} {w:World} {K:PySem.W.Frag} {tg:Expr} (it:Addr) (lo:Int) (n:Nat):Turn P w K tg (LR lo n) [it] it (fun i h=>IsRangeIter h it (lo+(i:Nat)*1) ((n:Int)-(i:Nat)) 1) where
 mem:=by simp
 obj:=fun i h st b hb=>by
  have e:b=it:=by simpa using hb
  subst e
  exact⟨_,st,fun v z=>by
   have z':Data.fields _=Data.cell v:=z
   cases z'⟩
 keep:=fun i h h' st k=>k it (by simp) _ st
 item:=by
  intro X hP hw hK hc i pins s σ H E I hf st hg
  subst hP hw hK
  obtain⟨f0,f1,f2,f3,f4,f5⟩:=hf it (by simp)
  have W:=Walks.range (prog:=X.prog) (w:=X.w) (I.ok.hd hc) it lo 1 n
  refine W.item i s _ _ hg st fun v h' tk hv st' kk=>?_
  obtain⟨t,rfl⟩:=hv
  have I1:Inv X pins σ H { s with heap:=h',toks:=tk }:=I.turned (fun b o hb e=>kk b o (by simpa using hb) e) f0 f1 f3 f4 f5
  refine⟨_,rfl,I_ (s:={ s with heap:=h',toks:=tk }) (n:="range_iterator") st' rfl rfl (by decide) ⟨.int (lo+i),H,I1,⟨t,?_⟩,⟨rfl,rfl⟩,st',fun b hb=>(hf b hb).1⟩⟩
  rw[Int.mul_one]
 done:=by
  intro X hP hw hK hc i pins s σ H E I hf st hg
  subst hP hw hK
  obtain⟨f0,f1,f2,f3,f4,f5⟩:=hf it (by simp)
  exact wpAny_pyNext_range_end (I.ok.hd hc) st (by have:n<=i:=hg; omega) fun h' eb=>⟨rfl,I.turned (t':=s.toks) (fun b o hb e=>eb b o hb e) f0 f1 f3 f4 f5⟩
 self:=fun _ _ _ _ _ st h=>Nv st h
section
variable {X:Cx} {tg:Expr}
def yI (K:PySem.W.Frag) (tl:TE):TI:=fun σ H R=>tl σ H fun x H1=>∃a,x=.ref a/\(∃xs,gW K H1 a xs)/\R (Vi K a) H1
def xq (K:PySem.W.Frag) (tl:TE):TI:=fun σ H R=>tl σ H fun x H1=>∃a,x=.ref a/\(∃xs,cA K H1 a xs)/\R (Vh K a) H1
theorem RL {l:Expr} {tl:TE} (hl:PE X l tl):PI X tg l (yI X.K tl):=by
 refine .mk ?_
 intro pins s σ H R I h
 refine cB (hl pins s σ H _ I h) fun v s1 qx=>?_
 obtain⟨x,H1,I1,r1,q1⟩:=qx
 obtain⟨a,e,⟨xs,hq⟩,q⟩:=q1
 subst e
 cases r1
 obtain⟨its,rv,p,hz⟩:=I1.list hq
 refine Hw p.isList ?_
 refine⟨s1.heap.objs.size,[s1.heap.objs.size],_,_,H1,rfl,I1.kept (t':=s1.toks) fun b o e=>gb _ e,JF a _,⟨_,dX _ rfl,rfl,rfl⟩,fun b hb=>?_,q⟩
 have e:b=s1.heap.objs.size:=by simpa using hb
 subst e
 exact I1.xF (cW _) (I1.hok.fresh (cW _))
theorem V3 {l:Expr} {tl:TE} (hl:PE X l tl):PI X tg l (xq X.K tl):=by
 refine .mk ?_
 intro pins s σ H R I h
 refine cB (hl pins s σ H _ I h) fun v s1 qx=>?_
 obtain⟨x,H1,I1,r1,q1⟩:=qx
 obtain⟨a,e,⟨xs,hq⟩,q⟩:=q1
 subst e
 cases r1
 obtain⟨its,rv,p,hz⟩:=I1.tuple hq
 refine J0 (show s1.heap.IsTuple a its.toArray from p) ?_
 refine⟨s1.heap.objs.size,[s1.heap.objs.size],_,_,H1,rfl,I1.kept (t':=s1.toks) fun b o e=>gb _ e,Eu a _,⟨_,dX _ rfl,rfl,rfl⟩,fun b hb=>?_,q⟩
 have e:b=s1.heap.objs.size:=by simpa using hb
 subst e
 exact I1.xF (cW _) (I1.hok.fresh (cW _))
theorem Nr {pins:List (Addr×Obj)} {σ:St} {H:Hp} {s:Shared} {R:It->Hp->Prop} {E:Value->Shared->Prop} {lo hi:Int} {t u v:Tok} {tk:Nat} (I:Inv X pins σ H s) (h1:-(2 ^ 62)<=lo) (h2:lo<2 ^ 62) (h3:-(2 ^ 62)<=hi) (h4:hi<2 ^ 62)
  (q:R (LR lo (hi-lo).toNat) H):wpAny (model X.prog X.w) X.A (pyIter (.ref s.heap.objs.size)) (PIE X pins σ tg R) E { s with heap:=s.heap.push { cls:=.type "range",data:=.fields #[.int lo t,.int hi u,.int 1 v] },toks:=tk }:=by
 refine wpAny_pyIter_range (IsRange.new ..) (small_one h1 h2 h3 h4) ?_
 have I1:Inv X pins σ H { s with heap:=s.heap.push { cls:=.type "range",data:=.fields #[.int lo t,.int hi u,.int 1 v] },toks:=tk }:=I.kept fun b o e=>gb _ e
 refine⟨(s.heap.push { cls:=.type "range",data:=.fields #[.int lo t,.int hi u,.int 1 v] }).objs.size,[(s.heap.push { cls:=.type "range",data:=.fields #[.int lo t,.int hi u,.int 1 v] }).objs.size],_,_,H,rfl,
  I1.kept (t':=tk) fun b o e=>gb _ e,Ew _ lo (hi-lo).toNat,?_,fun b hb=>?_,q⟩
 ·have e1:lo+((0:Nat):Int)*1=lo:=by simp
  have e2:(((hi-lo).toNat:Nat):Int)-((0:Nat):Int)=Builtin.Range.rangeSize lo hi 1:=by rw[rangeSize_one]; split <;> omega
  show IsRangeIter _ _ (lo+((0:Nat):Int)*1) ((((hi-lo).toNat:Nat):Int)-((0:Nat):Int)) 1
  rw[e1,e2]
  exact dX _ rfl
 ·have e:b=(s.heap.push { cls:=.type "range",data:=.fields #[.int lo t,.int hi u,.int 1 v] }).objs.size:=by simpa using hb
  subst e
  exact I1.xF (cW _) (I1.hok.fresh (cW _))
def DK (ta:TA):TI:=fun σ H R=>ta σ H fun vs H1=>∃j:Int,vs=[.int j]/\-(2 ^ 62)<=j/\j<2 ^ 62/\R (LR 0 j.toNat) H1
theorem fB {a:Expr} {ta:TA} {p pos:Pos} (hg:Gl X "range") (hm:X.mg "range" = none) (ha:PA X [a] ta) (hs:starEach [a] X.env=[(false,eval a X.env)]:=by rfl):PI X tg (.Call (.Name "range" p) [a] [] pos) (DK ta):=by
 refine .mk ?_
 intro pins s σ H R I h
 refine Call_ (lA I hg hm boot_range (PyProof.Rows.callWith_type1 (cB (ha pos pins s σ H _ I h) fun us s1 ⟨vs,H1,I1,r1,q1⟩=>?_) hs rfl))
 obtain⟨j,e,q1,q2,q⟩:=q1
 subst e
 cases r1 with
 | cons r rr=>
  cases rr
  obtain⟨t,rfl⟩:=r
  exact call_range_1 (Nr I1 (by omega) (by omega) q1 q2 (by simpa using q))
def Bu (wi:TI) (g:TG) (tb:TS):TS:=fun D σ H=>wi σ H fun J H1=>∃W:Nat->Nat->St->Hp->Prop,(∃m,W 0 m σ H1)/\∀i m σ H,W i m σ H ->
 (J.stop i H/\D.nx σ H)\/(J.go i H/\∃N:St->Hp->Prop,(∀σ' H',N σ' H'->∃m',m'<m/\W (i+1) m' σ' H')/\∀x H',J.xO i H x H'->g x σ H' fun σ2 H2=>tb { D with nx:=N,ct:=N,bk:=D.nx } σ2 H2)
def zQ (fp:List Addr) (h:Heap):List (Addr×Obj):=fp.filterMap fun b=>(h.get? b).map fun o=>(b,o)
theorem cH {fp:List Addr} {h:Heap} {b:Addr} {o:Obj} (hb:b∈fp) (e:h.get? b=some o):(b,o)∈zQ fp h:=List.mem_filterMap.mpr ⟨b,hb,by rw[e]; rfl⟩
theorem Kr {fp:List Addr} {h:Heap} {p:Addr×Obj} (hp:p∈zQ fp h):p.1∈fp/\h.get? p.1=some p.2:=by
 obtain⟨b,hb,e⟩:=List.mem_filterMap.mp hp
 cases q:h.get? b with
 | none=>rw[q] at e; cases e
 | some o=>
  rw[q] at e
  have e':(b,o)=p:=Option.some.inj e
  subst e'
  exact⟨hb,q⟩
theorem Inv.pinned {pins:List (Addr×Obj)} {σ:St} {H:Hp} {s:Shared} {fp:List Addr} (I:Inv X pins σ H s) (hf:∀b∈fp,ie X pins H b) (ho:∀b∈fp,∃o,s.heap.get? b=some o/\∀v,o.data≠.cell v):Inv X (pins++zQ fp s.heap) σ H s:=
 I.HR fun p hp=>(oV.mp hp).elim (fun z=>I.pin p (ir _ z)) fun z=>by
  obtain⟨hb,e⟩:=Kr z
  obtain⟨f0,f1,f2,_⟩:=hf p.1 hb
  obtain⟨o,e',d⟩:=ho p.1 hb
  rw[e] at e'; cases e'
  exact⟨e,f0,f1,f2,d⟩
theorem Inv.gY {pins pl:List (Addr×Obj)} {σ:St} {H:Hp} {s:Shared} (I:Inv X (pins++pl) σ H s):Inv X pins σ H s:=I.HR fun p hp=>I.pin p (ir _ (HB _ hp))
theorem oW {iter:Expr} {body:List Stmt} {wi:TI} {g:TG} {tb:TS} {pos:Pos} (hp:PassesOwn (model X.prog X.w) X.A X.env X.xe) (hc:X.calm=true) (hi:PI X tg iter wi) (hg:PG X tg g) (hb:xK X body tb)
  (hs:∀x,foldedSetIterable iter X.env x=pure x:=by intro _; rfl):PS X (.For tg iter body [] pos) (Bu wi g tb):=by
 refine .mk ?_
 intro pins s σ H D I h
 refine wpAny_For (cB (hi pins s σ H _ I h) fun v s1 h1=>cB h1 fun itv s2 h2=>?_) hs
 obtain⟨it,fp,tn,J,H2,e,I2,T,st2,f2,W,⟨m0,w0⟩,turn⟩:=h2
 subst e
 have stat:∀{H':Hp},(∀b∈fp,H' b=none)->∀b∈fp,ie X pins H' b:=fun hn b hb=>⟨hn b hb,(f2 b hb).2⟩
 refine codeAny_forLoop_any (fun n s'=>∃i σ' H',Inv X pins σ' H' s'/\tn i s'.heap/\(∀b∈fp,H' b=none)/\W i n σ' H') ?_ m0 ⟨0,σ,H2,I2,st2,fun b hb=>(f2 b hb).1,w0⟩
 rintro n s3 ⟨i,σ3,H3,I3,st3,fr3,w3⟩
 rcases turn i n σ3 H3 w3 with⟨stop,qn⟩ | ⟨go,N,hN,step⟩
 ·refine Fv hp (cB (T.done X rfl rfl rfl hc i pins s3 σ3 H3 X.xe I3 (stat fr3) st3 stop) fun r s4 qx=>?_)
  obtain⟨hr,I4⟩:=qx
  subst hr
  exact yw ⟨σ3,H3,I4,qn⟩
 ·refine Fv hp (cB (T.item X rfl rfl rfl hc i pins s3 σ3 H3 X.xe I3 (stat fr3) st3 go) fun r s4 qx=>?_)
  obtain⟨u,hr,h4⟩:=qx
  subst hr
  refine Fv hp (cB h4 fun _ s5 qx=>?_)
  obtain⟨x,H5,I5,r5,y5,Rc,WL⟩:=qx
  have I5':=I5.pinned (stat WL) (T.obj _ _ Rc)
  refine Fv hp (cB (hg _ s5 σ3 H5 x u _ I5' r5 (step x H5 y5)) fun _ s6 qx=>?_)
  obtain⟨σ6,H6,I6,q6⟩:=qx
  refine Fv hp (cB (hb _ s6 σ6 H6 _ I6 q6) fun f s7 q7=>?_)
  have again:∀{σ7:St} {H7:Hp},Inv X (pins++zQ fp s5.heap) σ7 H7 s7->N σ7 H7->∃m,m<n/\∃i σ' H',Inv X pins σ' H' s7/\tn i s7.heap/\(∀b∈fp,H' b=none)/\W i m σ' H':=fun {σ7 H7} I7 n7=>by
   obtain⟨m',hm,w7⟩:=hN σ7 H7 n7
   refine⟨m',hm,i+1,σ7,H7,I7.gY,T.keep _ _ _ Rc fun b hb o e=>(I7.pin (b,o) (ir _ (ir _ (cH hb e)))).1,fun b hb=>?_,w7⟩
   obtain⟨o,e,d⟩:=T.obj _ _ Rc b hb
   exact(I7.pin (b,o) (ir _ (ir _ (cH hb e)))).2.1
  cases f with
  | next=>obtain⟨σ7,H7,I7,n7⟩:=q7; exact again I7 n7
  | cont=>obtain⟨σ7,H7,I7,n7⟩:=q7; exact again I7 n7
  | brk=>obtain⟨σ7,H7,I7,q7⟩:=q7; exact⟨σ7,H7,I7.gY,q7⟩
  | ret v=>obtain⟨x7,σ7,H7,I7,r7,q7⟩:=q7; exact⟨x7,σ7,H7,I7.gY,r7,q7⟩
end
theorem Qg {K:PySem.W.Frag} {a:Addr} {xs:List V} {g:TG} {tb:TS} {D:Ends} {σ:St} {H:Hp} (Pv:Nat->St->Hp->Prop) (h0:Pv 0 σ H) (hl:∀i σ H,i<=xs.length->Pv i σ H->gW K H a xs)
  (hs:∀i x σ H,xs[i]?=some x->Pv i σ H->g x σ H fun σ2 H2=>tb { D with nx:=Pv (i+1),ct:=Pv (i+1),bk:=D.nx } σ2 H2) (hd:∀σ H,Pv xs.length σ H->D.nx σ H) :
  ∃W:Nat->Nat->St->Hp->Prop,(∃m,W 0 m σ H)/\∀i m σ H,W i m σ H ->
   ((Vi K a).stop i H/\D.nx σ H)\/((Vi K a).go i H/\∃N:St->Hp->Prop,(∀σ' H',N σ' H'->∃m',m'<m/\W (i+1) m' σ' H')/\∀x H',(Vi K a).xO i H x H'->g x σ H' fun σ2 H2=>tb { D with nx:=N,ct:=N,bk:=D.nx } σ2 H2):=by
 refine⟨fun i m σ H=>m=xs.length-i/\i<=xs.length/\Pv i σ H,⟨xs.length,by simp,e_ _,h0⟩,?_⟩
 rintro i m σ H ⟨rfl,hi,p⟩
 have q:=hl i σ H hi p
 by_cases hlt:i<xs.length
 ·refine .inr ⟨⟨xs,xs[i],q,by simp[hlt]⟩,Pv (i+1),fun σ' H' p'=>⟨xs.length-(i+1),by omega,rfl,hlt,p'⟩,fun x H' y=>?_⟩
  obtain⟨e,y⟩:=y
  subst e
  exact hs i x σ _ (y xs q) p
 ·have e:i=xs.length:=by omega
  subst e
  exact .inl ⟨⟨xs,q,cW _⟩,hd σ H p⟩
theorem Tc {K:PySem.W.Frag} {a:Addr} {xs:List V} {g:TG} {tb:TS} {D:Ends} {σ:St} {H:Hp} (Pv:Nat->St->Hp->Prop) (h0:Pv 0 σ H) (hl:∀i σ H,i<=xs.length->Pv i σ H->cA K H a xs)
  (hs:∀i x σ H,xs[i]?=some x->Pv i σ H->g x σ H fun σ2 H2=>tb { D with nx:=Pv (i+1),ct:=Pv (i+1),bk:=D.nx } σ2 H2) (hd:∀σ H,Pv xs.length σ H->D.nx σ H) :
  ∃W:Nat->Nat->St->Hp->Prop,(∃m,W 0 m σ H)/\∀i m σ H,W i m σ H ->
   ((Vh K a).stop i H/\D.nx σ H)\/((Vh K a).go i H/\∃N:St->Hp->Prop,(∀σ' H',N σ' H'->∃m',m'<m/\W (i+1) m' σ' H')/\∀x H',(Vh K a).xO i H x H'->g x σ H' fun σ2 H2=>tb { D with nx:=N,ct:=N,bk:=D.nx } σ2 H2):=by
 refine⟨fun i m σ H=>m=xs.length-i/\i<=xs.length/\Pv i σ H,⟨xs.length,by simp,e_ _,h0⟩,?_⟩
 rintro i m σ H ⟨rfl,hi,p⟩
 have q:=hl i σ H hi p
 by_cases hlt:i<xs.length
 ·refine .inr ⟨⟨xs,xs[i],q,by simp[hlt]⟩,Pv (i+1),fun σ' H' p'=>⟨xs.length-(i+1),by omega,rfl,hlt,p'⟩,fun x H' y=>?_⟩
  obtain⟨e,y⟩:=y
  subst e
  exact hs i x σ _ (y xs q) p
 ·have e:i=xs.length:=by omega
  subst e
  exact .inl ⟨⟨xs,q,cW _⟩,hd σ H p⟩
theorem yL {lo:Int} {n:Nat} {g:TG} {tb:TS} {D:Ends} {σ:St} {H:Hp} (Pv:Nat->St->Hp->Prop) (h0:Pv 0 σ H)
  (hs:∀i σ H,i<n->Pv i σ H->g (.int (lo+i)) σ H fun σ2 H2=>tb { D with nx:=Pv (i+1),ct:=Pv (i+1),bk:=D.nx } σ2 H2) (hd:∀σ H,Pv n σ H->D.nx σ H) :
  ∃W:Nat->Nat->St->Hp->Prop,(∃m,W 0 m σ H)/\∀i m σ H,W i m σ H ->
   ((LR lo n).stop i H/\D.nx σ H)\/((LR lo n).go i H/\∃N:St->Hp->Prop,(∀σ' H',N σ' H'->∃m',m'<m/\W (i+1) m' σ' H')/\∀x H',(LR lo n).xO i H x H'->g x σ H' fun σ2 H2=>tb { D with nx:=N,ct:=N,bk:=D.nx } σ2 H2):=by
 refine⟨fun i m σ H=>m=n-i/\i<=n/\Pv i σ H,⟨n,by simp,e_ _,h0⟩,?_⟩
 rintro i m σ H ⟨rfl,hi,p⟩
 by_cases hlt:i<n
 ·refine .inr ⟨hlt,Pv (i+1),fun σ' H' p'=>⟨n-(i+1),by omega,rfl,hlt,p'⟩,fun x H' y=>?_⟩
  obtain⟨e,y⟩:=y
  subst e y
  exact hs i σ _ hlt p
 ·have e:i=n:=by omega
  subst e
  exact .inl ⟨cW _,hd σ H p⟩
abbrev R2:=V->V->Hp->VK->Prop
structure oG (X:Cx) (f:Value->Value->Sem Value) (r:R2):Prop where
 mk ::
 go :
 ∀(pins:List (Addr×Obj)) (s:Shared) (σ:St) (H:Hp) (x y:V) (v u:Value) (Q:VK),Inv X pins σ H s->RelV x v->RelV y u->r x y H Q ->
  wpAny (model X.prog X.w) X.A (f v u) (EP X pins σ Q) X.xe s
instance {X:Cx} {f:Value->Value->Sem Value} {r:R2}:CoeFun (oG X f r) (fun _=>
 ∀(pins:List (Addr×Obj)) (s:Shared) (σ:St) (H:Hp) (x y:V) (v u:Value) (Q:VK),Inv X pins σ H s->RelV x v->RelV y u->r x y H Q ->
  wpAny (model X.prog X.w) X.A (f v u) (EP X pins σ Q) X.xe s):=⟨oG.go⟩
structure ZM (X:Cx) (f:Value->Sem Value) (r:V->Hp->VK->Prop):Prop where
 mk ::
 go :
 ∀(pins:List (Addr×Obj)) (s:Shared) (σ:St) (H:Hp) (x:V) (v:Value) (Q:VK),Inv X pins σ H s->RelV x v->r x H Q ->
  wpAny (model X.prog X.w) X.A (f v) (EP X pins σ Q) X.xe s
instance {X:Cx} {f:Value->Sem Value} {r:V->Hp->VK->Prop}:CoeFun (ZM X f r) (fun _=>
 ∀(pins:List (Addr×Obj)) (s:Shared) (σ:St) (H:Hp) (x:V) (v:Value) (Q:VK),Inv X pins σ H s->RelV x v->r x H Q ->
  wpAny (model X.prog X.w) X.A (f v) (EP X pins σ Q) X.xe s):=⟨ZM.go⟩
structure dI (X:Cx) (f:Value) (r:List V->Hp->VK->Prop):Prop where
 mk ::
 go :
 ∀(pins:List (Addr×Obj)) (s:Shared) (σ:St) (H:Hp) (xs:List V) (us:List Value) (Q:VK),Inv X pins σ H s->Vals xs us->r xs H Q ->
  wpAny (model X.prog X.w) X.A (call f us) (EP X pins σ Q) X.xe s
instance {X:Cx} {f:Value} {r:List V->Hp->VK->Prop}:CoeFun (dI X f r) (fun _=>
 ∀(pins:List (Addr×Obj)) (s:Shared) (σ:St) (H:Hp) (xs:List V) (us:List Value) (Q:VK),Inv X pins σ H s->Vals xs us->r xs H Q ->
  wpAny (model X.prog X.w) X.A (call f us) (EP X pins σ Q) X.xe s):=⟨dI.go⟩
def Uk (r:R2) (ta tb:TE):TE:=fun σ H Q=>ta σ H fun x H1=>tb σ H1 fun y H2=>r x y H2 Q
def tUn (r:V->Hp->VK->Prop) (ta:TE):TE:=fun σ H Q=>ta σ H fun x H1=>r x H1 Q
def rI (C:Int->Int->Prop) (g:Int->Int->V):R2:=fun x y H Q=>∃i j,x=.int i/\y=.int j/\C i j/\Q (g i j) H
def Ry (g:Int->Int->V):R2:=fun x y H Q=>∃i j,x=.int i/\y=.int j/\Q (g i j) H
def rU (g:Int->V):V->Hp->VK->Prop:=fun x H Q=>∃i,x=.int i/\Q (g i) H
section
variable {X:Cx} {a b c:Expr} {ta tb tc:TE} {pos:Pos}
theorem W5 (ha:PE X a ta) (hb:PE X b tb) {pins:List (Addr×Obj)} {s:Shared} {σ:St} {H:Hp} {R:V->V->Hp->Prop} (I:Inv X pins σ H s)
  (h:ta σ H fun x H1=>tb σ H1 fun y H2=>R x y H2) {Q:Value->Shared->Prop} {f:Value->Value->Sem Value}
  (hf:∀v u s2 x y H2,Inv X pins σ H2 s2->RelV x v->RelV y u->R x y H2->wpAny (model X.prog X.w) X.A (f v u) Q X.xe s2) :
  wpAny (model X.prog X.w) X.A (eval a X.env) (fun v s₁=>wpAny (model X.prog X.w) X.A (eval b X.env) (fun u s₂=>wpAny (model X.prog X.w) X.A (f v u) Q X.xe s₂) X.xe s₁) X.xe s:=by
 refine cB (ha pins s σ H _ I h) fun v s1 qx=>?_
 obtain⟨x,H1,I1,r1,q1⟩:=qx
 refine cB (hb pins s1 σ H1 _ I1 q1) fun u s2 qx=>?_
 obtain⟨y,H2,I2,r2,q2⟩:=qx
 exact hf v u s2 x y H2 I2 r1 r2 q2
theorem aZ {op:Operator} {r:R2} (ho:oG X (binaryOp op) r) (ha:PE X a ta) (hb:PE X b tb):PE X (.BinOp a op b pos) (Uk r ta tb):=by
 refine .mk ?_
 intro pins s σ H Q I h
 exact wpAny_BinOp (W5 ha hb I h fun v u s2 x y H2 I2 rx ry q=>ho pins s2 σ H2 x y v u Q I2 rx ry q)
theorem UJ {op:UnaryOp} {r:V->Hp->VK->Prop} (ho:ZM X (unaryOp op) r) (ha:PE X a ta):PE X (.UnaryOp op a pos) (tUn r ta):=by
 refine .mk ?_
 intro pins s σ H Q I h
 exact UnaryOp_ (cB (ha pins s σ H _ I h) fun v s1 ⟨x,H1,I1,r1,q1⟩=>ho pins s1 σ H1 x v Q I1 r1 q1)
theorem Y8 {f:Value->Value->Sem Value} {C:Int->Int->Prop} {g:Int->Int->Int}
  (rule:∀(i j:Int) (t u:Tok) (s:Shared) (Q:Value->Shared->Prop) (E:Value->Shared->Prop),C i j->Q (.int (g i j) s.toks) { s with toks:=s.toks+1 }->wpAny (model X.prog X.w) X.A (f (.int i t) (.int j u)) Q E s) :
  oG X f (rI C fun i j=>.int (g i j)):=by
 refine .mk ?_
 intro pins s σ H x y v u Q I rx ry h
 obtain⟨i,j,rfl,rfl,hc,q⟩:=h
 obtain⟨t,rfl⟩:=rx
 obtain⟨t',rfl⟩:=ry
 exact rule i j t t' s _ _ hc ⟨.int (g i j),H,I.tok _,⟨_,rfl⟩,q⟩
theorem Y7 {f:Value->Value->Sem Value} {g:Int->Int->Int}
  (rule:∀(i j:Int) (t u:Tok) (s:Shared) (Q:Value->Shared->Prop) (E:Value->Shared->Prop),Q (.int (g i j) s.toks) { s with toks:=s.toks+1 }->wpAny (model X.prog X.w) X.A (f (.int i t) (.int j u)) Q E s) :
  oG X f (Ry fun i j=>.int (g i j)):=by
 refine .mk ?_
 intro pins s σ H x y v u Q I rx ry h
 obtain⟨i,j,rfl,rfl,q⟩:=h
 obtain⟨t,rfl⟩:=rx
 obtain⟨t',rfl⟩:=ry
 exact rule i j t t' s _ _ ⟨.int (g i j),H,I.tok _,⟨_,rfl⟩,q⟩
theorem Wb {f:Value->Value->Sem Value} {g:Int->Int->Bool}
  (rule:∀(i j:Int) (t u:Tok) (s:Shared) (Q:Value->Shared->Prop) (E:Value->Shared->Prop),Q (.bool (g i j)) s->wpAny (model X.prog X.w) X.A (f (.int i t) (.int j u)) Q E s) :
  oG X f (Ry fun i j=>.bl (g i j)):=by
 refine .mk ?_
 intro pins s σ H x y v u Q I rx ry h
 obtain⟨i,j,rfl,rfl,q⟩:=h
 obtain⟨t,rfl⟩:=rx
 obtain⟨t',rfl⟩:=ry
 exact rule i j t t' s _ _ ⟨.bl (g i j),H,I,rfl,q⟩
def acu (i j:Int):Prop:=0<j/\j<1073741824
def acs (i j:Int):Prop:=0<=j/\j<=1000000/\i.natAbs<2 ^ 64
def T7 (i j:Int):Prop:=(-(2 ^ 64)<i/\i<2 ^ 64)\/(-(2 ^ 64)<j/\j<2 ^ 64)
theorem T7.ok {i j:Int} (h:T7 i j):IntMulOk i j:=by
 rcases h with⟨h1,h2⟩ | ⟨h1,h2⟩
 ·exact .of_left (intBits_le_64 h1 h2)
 ·exact .of_right (intBits_le_64 h1 h2)
theorem bN:oG X (binaryOp .Add) (Ry fun i j=>.int (i+j)):=Y7 fun _ _ _ _ _ _ _ q=>add_int q
theorem iu:oG X (binaryOp .Sub) (Ry fun i j=>.int (i-j)):=Y7 fun _ _ _ _ _ _ _ q=>sub_int q
theorem kY:oG X (binaryOp .Mult) (rI T7 fun i j=>.int (i*j)):=Y8 fun _ _ _ _ _ _ _ hc q=>mul_int q hc.ok
theorem RW:oG X (binaryOp .FloorDiv) (rI acu fun i j=>.int (i / j)):=Y8 fun i j _ _ _ _ _ hc q=>by
 have h1:(0:Int)<j:=hc.1
 have h2:j<1073741824:=hc.2
 exact floordiv_int (by omega) (by rw[Int.fdiv_eq_ediv_of_nonneg i (by omega)]; exact q) (.inl (PyProof.noPylong_small (by omega)))
theorem kZ:oG X (binaryOp .Mod) (rI (fun _ j=>0<j) fun i j=>.int (i % j)):=Y8 fun i j _ _ _ _ _ hc q=>by
 have h1:(0:Int)<j:=hc
 exact mod_int' (by omega) (by rw[Int.fmod_eq_emod_of_nonneg i (by omega)]; exact q)
theorem FT:oG X (binaryOp .Pow) (rI acs fun i j=>.int (i ^ j.toNat)):=Y8 fun _ _ _ _ _ _ _ hc q=>pow_int_small hc.1 hc.2.1 hc.2.2 q
theorem unI {f:Value->Sem Value} {g:Int->Int}
  (rule:∀(i:Int) (t:Tok) (s:Shared) (Q:Value->Shared->Prop) (E:Value->Shared->Prop),Q (.int (g i) s.toks) { s with toks:=s.toks+1 }->wpAny (model X.prog X.w) X.A (f (.int i t)) Q E s) :
  ZM X f (rU fun i=>.int (g i)):=by
 refine .mk ?_
 intro pins s σ H x v Q I rx h
 obtain⟨i,rfl,q⟩:=h
 obtain⟨t,rfl⟩:=rx
 exact rule i t s _ _ ⟨.int (g i),H,I.tok _,⟨_,rfl⟩,q⟩
theorem Ml:ZM X (unaryOp .USub) (rU fun i=>.int (-i)):=unI fun _ _ _ _ _ q=>neg_int q
end
def JQ:V->V->Bool
 | .non,.non=>true | .non,.int _=>true | .int _,.non=>true | .non,.bl _=>true | .bl _,.non=>true | .non,.str _=>true | .str _,.non=>true
 | .int _,.int _=>true | .bl _,.bl _=>true | .str _,.str _=>true | .Lx _,.Lx _=>true
 | .int _,.str _=>true | .str _,.int _=>true | .bl _,.str _=>true | .str _,.bl _=>true
 | _,_=>false
def YS:R2:=fun x y H Q=>JQ x y=true/\Q (.bl (decide (x=y))) H
def YM:R2:=fun x y H Q=>JQ x y=true/\Q (.bl (!decide (x=y))) H
theorem Jf {i j:Int}:decide (V.int i=V.int j)=(i==j):=by
 rw[Bool.eq_iff_iff]
 simp
theorem Qn {i j:Bool}:decide (V.bl i=V.bl j)=(i==j):=by
 rw[Bool.eq_iff_iff]
 simp
theorem Je {i j:Str}:decide (V.str i=V.str j)=(i==j):=by
 rw[Bool.eq_iff_iff]
 simp
theorem Jg {i j:Array UInt8}:decide (V.Lx i=V.Lx j)=(i.toList==j.toList):=by
 rw[Bool.eq_iff_iff]
 cases i
 cases j
 simp
section
variable {X:Cx} {a b c:Expr} {ta tb tc:TE} {pos:Pos}
theorem bG {pins:List (Addr×Obj)} {σ:St} {H:Hp} {s:Shared} {Q:VK} {k k':Bool} (I:Inv X pins σ H s) (q:Q (.bl k) H) (e:k=k'):EP X pins σ Q (.bool k') s:=by
 subst e
 exact⟨.bl k,H,I,rfl,q⟩
theorem mU:oG X (compareOp .Eq) YS:=by
 refine .mk ?_
 intro pins s σ H x y v u Q I rx ry h
 obtain⟨hs,q⟩:=h
 cases x with
 | non=>
  cases rx
  cases y with
  | non=>cases ry; exact PySem.EqNone.eq_none_none (bG I q (by simp))
  | bl j=>cases ry; exact PySem.EqNone.eq_none_bool (bG I q (by simp))
  | int j=>obtain⟨t',rfl⟩:=ry; exact PySem.EqNone.eq_none_int (bG I q (by simp))
  | str j=>obtain⟨t',rfl⟩:=ry; exact PySem.EqNone.eq_none_str (bG I q (by simp))
  | _=>exact absurd (show false=true from hs) mO
 | bl i=>
  cases rx
  cases y with
  | non=>cases ry; exact PySem.EqNone.eq_bool_none (bG I q (by simp))
  | bl j=>cases ry; exact eq_bool (bG I q Qn)
  | str j=>obtain⟨t',rfl⟩:=ry; exact PySem.EqMixed.eq_bool_str (bG I q (by simp))
  | _=>exact absurd (show false=true from hs) mO
 | int i=>
  obtain⟨t,rfl⟩:=rx
  cases y with
  | non=>cases ry; exact PySem.EqNone.eq_int_none (bG I q (by simp))
  | int j=>obtain⟨t',rfl⟩:=ry; exact eq_int (bG I q Jf)
  | str j=>obtain⟨t',rfl⟩:=ry; exact PySem.EqMixed.eq_int_str (bG I q (by simp))
  | _=>exact absurd (show false=true from hs) mO
 | str i=>
  obtain⟨t,rfl⟩:=rx
  cases y with
  | non=>cases ry; exact PySem.EqNone.eq_str_none (bG I q (by simp))
  | bl j=>cases ry; exact PySem.EqMixed.eq_str_bool (bG I q (by simp))
  | int j=>obtain⟨t',rfl⟩:=ry; exact PySem.EqMixed.eq_str_int (bG I q (by simp))
  | str j=>obtain⟨t',rfl⟩:=ry; exact eq_str (bG I q Je)
  | _=>exact absurd (show false=true from hs) mO
 | Lx i=>
  obtain⟨t,rfl⟩:=rx
  cases y with
  | Lx j=>obtain⟨t',rfl⟩:=ry; exact PySem.W.eq_bytes (bG I q Jg)
  | _=>exact absurd (show false=true from hs) mO
 | _=>cases y <;> exact absurd (show false=true from hs) mO
theorem U0:oG X (compareOp .NotEq) YM:=by
 refine .mk ?_
 intro pins s σ H x y v u Q I rx ry h
 obtain⟨hs,q⟩:=h
 cases x with
 | non=>
  cases rx
  cases y with
  | non=>cases ry; exact PySem.EqNone.ne_none_none (bG I q (by simp))
  | bl j=>cases ry; exact PySem.EqNone.ne_none_bool (bG I q (by simp))
  | int j=>obtain⟨t',rfl⟩:=ry; exact PySem.EqNone.ne_none_int (bG I q (by simp))
  | str j=>obtain⟨t',rfl⟩:=ry; exact PySem.EqNone.ne_none_str (bG I q (by simp))
  | _=>exact absurd (show false=true from hs) mO
 | bl i=>
  cases rx
  cases y with
  | non=>cases ry; exact PySem.EqNone.ne_bool_none (bG I q (by simp))
  | bl j=>cases ry; exact ne_bool (bG I q (jl not Qn))
  | str j=>obtain⟨t',rfl⟩:=ry; exact PySem.EqMixed.ne_bool_str (bG I q (by simp))
  | _=>exact absurd (show false=true from hs) mO
 | int i=>
  obtain⟨t,rfl⟩:=rx
  cases y with
  | non=>cases ry; exact PySem.EqNone.ne_int_none (bG I q (by simp))
  | int j=>obtain⟨t',rfl⟩:=ry; exact ne_int (bG I q (jl not Jf))
  | str j=>obtain⟨t',rfl⟩:=ry; exact PySem.EqMixed.ne_int_str (bG I q (by simp))
  | _=>exact absurd (show false=true from hs) mO
 | str i=>
  obtain⟨t,rfl⟩:=rx
  cases y with
  | non=>cases ry; exact PySem.EqNone.ne_str_none (bG I q (by simp))
  | bl j=>cases ry; exact PySem.EqMixed.ne_str_bool (bG I q (by simp))
  | int j=>obtain⟨t',rfl⟩:=ry; exact PySem.EqMixed.ne_str_int (bG I q (by simp))
  | str j=>obtain⟨t',rfl⟩:=ry; exact ne_str (bG I q (jl not Je))
  | _=>exact absurd (show false=true from hs) mO
 | Lx i=>
  obtain⟨t,rfl⟩:=rx
  cases y with
  | Lx j=>obtain⟨t',rfl⟩:=ry; exact PySem.W.ne_bytes (bG I q (jl not Jg))
  | _=>exact absurd (show false=true from hs) mO
 | _=>cases y <;> exact absurd (show false=true from hs) mO
theorem Dj:oG X (compareOp .Lt) (Ry fun i j=>.bl (decide (i<j))):=Wb fun _ _ _ _ _ _ _ q=>lt_int q
theorem lO:oG X (compareOp .Gt) (Ry fun i j=>.bl (decide (j<i))):=Wb fun _ _ _ _ _ _ _ q=>gt_int q
theorem U3:oG X (compareOp .GtE) (Ry fun i j=>.bl (decide (j<=i))):=Wb fun _ _ _ _ _ _ _ q=>ge_int q
theorem FW:oG X (compareOp .Is) (fun x y H Q=>y=.non/\Q (.bl (decide (x=.non))) H):=by
 refine .mk ?_
 intro pins s σ H x y v u Q I rx ry h
 obtain⟨rfl,q⟩:=h
 cases ry
 refine is_none_gen (bG I q ?_)
 cases x <;> first
  | (cases rx; rfl)
  | (obtain⟨t,rfl⟩:=rx; rfl)
theorem qi:oG X (compareOp .IsNot) (fun x y H Q=>y=.non/\Q (.bl (!decide (x=.non))) H):=by
 refine .mk ?_
 intro pins s σ H x y v u Q I rx ry h
 obtain⟨rfl,q⟩:=h
 cases ry
 refine isnot_none_gen (bG I q ?_)
 cases x <;> first
  | (cases rx; rfl)
  | (obtain⟨t,rfl⟩:=rx; rfl)
theorem bA (b:Expr) {op:CmpOp} (h:op≠.In:=by decide) (h2:op≠.NotIn:=by decide):behindInMarks op b=false:=by
 have e1:(op==CmpOp.In)=false:=by cases op <;> first | rfl | exact absurd rfl h
 have e2:(op==CmpOp.NotIn)=false:=by cases op <;> first | rfl | exact absurd rfl h2
 cases b <;> simp[behindInMarks,e1,e2]
theorem fY {op:CmpOp} {r:R2} (ho:oG X (compareOp op) r) (ha:PE X a ta) (hb:PE X b tb) (hm:behindInMarks op b=false):PE X (.Compare a [op] [b] pos) (Uk r ta tb):=by
 refine .mk ?_
 intro pins s σ H Q I h
 exact wpAny_Compare1 (W5 ha hb I h fun v u s2 x y H2 I2 rx ry q=>ho pins s2 σ H2 x y v u Q I2 rx ry q) hm
def Ug (t:TE):TT:=fun σ H Q=>t σ H fun x H'=>∃k,x=.bl k/\Q k H'
theorem bw {op:CmpOp} {r:R2} (ho:oG X (compareOp op) r) (ha:PE X a ta) (hb:PE X b tb) (hm:behindInMarks op b=false):PT X (.Compare a [op] [b] pos) (Ug (Uk r ta tb)):=by
 refine .mk ?_
 intro pins s σ H Q I h
 refine wpAny_isTrue_Compare1 (cB (ha pins s σ H _ I h) fun v s1 ⟨x,H1,I1,r1,q1⟩=>cB (hb pins s1 σ H1 _ I1 q1) fun u s2 ⟨y,H2,I2,r2,q2⟩=>
  cB (ho pins s2 σ H2 x y v u _ I2 r1 r2 q2) fun c s3 ⟨z,H3,I3,r3,k,e,q3⟩=>?_) hm
 subst e
 cases r3
 exact JZ ⟨H3,I3,q3⟩
def Vw (r r':R2) (ta tb tc:TE):TE:=fun σ H Q=>ta σ H fun x H1=>tb σ H1 fun y H2=>r x y H2 fun z H3=>∃k,z=.bl k /\
 (if k=true then tc σ H3 fun w' H4=>r' y w' H4 Q else Q (.bl false) H3)
def acb (K:PySem.W.Frag) (x:V) (H:Hp) (k:Bool):Prop:=
 match x with
 | .non=>k=false
 | .bl b=>k=b
 | .int i=>k=(i != 0)
 | .str y=>y.length<=sizeLine/\k=((y.length:Int) != 0)
 | .Lx y=>y.size<=sizeLine/\k=((y.size:Int) != 0)
 | .ref p=>(∃xs,gW K H p xs/\k = !xs.isEmpty)\/(∃xs,cA K H p xs/\k = !xs.isEmpty)\/∃kvs,H p=some (.dK kvs)/\k = !kvs.isEmpty
 | _=>False
theorem vK:(sizeLine:Nat)<2 ^ 63:=by rw[sizeLine_eq]; decide
theorem vals1 {x:V} {us:List Value} (r:Vals [x] us):∃u,us=[u]/\RelV x u:=by
 cases r with
 | cons r1 r2=>cases r2; exact⟨_,rfl,r1⟩
theorem vals2 {x y:V} {us:List Value} (r:Vals [x,y] us):∃u w',us=[u,w']/\RelV x u/\RelV y w':=by
 cases r with
 | cons r1 r2=>
  cases r2 with
  | cons r3 r4=>cases r4; exact⟨_,_,rfl,r1,r3⟩
theorem Eb:dI X (.builtin "abs") (fun xs H Q=>∃i,xs=[.int i]/\Q (.int (if i<0 then -i else i)) H):=by
 refine .mk ?_
 intro pins s σ H xs us Q I r h
 obtain⟨i,rfl,q⟩:=h
 obtain⟨u,rfl,t,rfl⟩:=vals1 r
 exact call_abs_int fun u tk=>⟨.int (if i<0 then -i else i),H,I.tok _,⟨_,rfl⟩,q⟩
theorem iT (hc:X.calm=true):dI X (.builtin "max") (fun xs H Q=>∃i j,xs=[.int i,.int j]/\Q (.int (if j>i then j else i)) H):=by
 refine .mk ?_
 intro pins s σ H xs us Q I r h
 obtain⟨i,j,rfl,q⟩:=h
 obtain⟨u,w',rfl,⟨t,rfl⟩,⟨t',rfl⟩⟩:=vals2 r
 refine max_two_ints (I.ok.hd hc) fun h' tk k=>⟨_,H,I.kept k,?_,q⟩
 by_cases hj:j>i
 ·rw[aM hj,aM hj]; exact⟨_,rfl⟩
 ·rw[aK hj,aK hj]; exact⟨_,rfl⟩
theorem dZ (hc:X.calm=true):dI X (.builtin "min") (fun xs H Q=>∃i j,xs=[.int i,.int j]/\Q (.int (if j<i then j else i)) H):=by
 refine .mk ?_
 intro pins s σ H xs us Q I r h
 obtain⟨i,j,rfl,q⟩:=h
 obtain⟨u,w',rfl,⟨t,rfl⟩,⟨t',rfl⟩⟩:=vals2 r
 refine min_two_ints (I.ok.hd hc) fun h' tk k=>⟨_,H,I.kept k,?_,q⟩
 by_cases hj:j<i
 ·rw[aM hj,aM hj]; exact⟨_,rfl⟩
 ·rw[aK hj,aK hj]; exact⟨_,rfl⟩
end
structure agg (h:Heap) (x dx C:Addr) (mA:Str->Option Value):Prop where
 obj:h.get? x=some (PySem.W.instObj C dx)
 ns:h.Ns1 dx mA
 ne:dx≠x
section
variable {prog:Program} {w:World} {A:Around} {E:Value->Shared->Prop} {s:Shared} {K:PySem.W.Frag} {x dx C f:Addr} {mA:Str->Option Value} {name:Str} {v:Value}
end
section
variable {P:Program} {w:World} {H H':Hp} {h h':Heap} {a C dx:Addr} {fs fs':List (Str×V)}
end
structure Cls (K:PySem.W.Frag) (C:Addr):Prop where
 pg:PySem.W.plainGet K C Str.empty=true
 hd:PySem.W.hasDictIn K C=true
 po:PySem.W.plainOver K C=true
 sa:PySem.W.findIn K (.ref C) "__setattr__" = some (some (.builtin "object.__setattr__"))
structure Con (K:PySem.W.Frag) (C:Addr) (f:Str) (v:V) (u:Value):Prop where
 at_:PySem.W.findIn K (.ref C) f=some (some u)
 rel:RelV v u
 get:PySem.W.specialIn K u "__get__" = some none
 cp:PySem.W.copiedNames.contains f=false
structure Meth (K:PySem.W.Frag) (C:Addr) (m:Str) (f:Addr):Prop where
 at_:PySem.W.findIn K (.ref C) m=some (some (.ref f))
 fn:PySem.W.isFn K (.ref f)=true
 kp:PySem.W.keepIn K (.ref f)=true
section
variable {X:Cx} {pins:List (Addr×Obj)} {σ:St} {H:Hp} {s:Shared} {a C dx:Addr} {fs:List (Str×V)} {f:Str} {v:V} {A:Around} {E:Value->Shared->Prop}
end
section
variable {X:Cx} {o e value:Expr} {f:Str} {pos pos' tpos:Pos} {ta tv:TE}
end
section
variable {X:Cx} {pins:List (Addr×Obj)} {σ:St} {H:Hp} {s:Shared} {A:Around} {E:Value->Shared->Prop} {Q:Value->Shared->Prop} {c:Value} {b:Bool}
inductive wJ (K:PySem.W.Frag) (H:Hp):V->Value->Prop where
 | non:wJ K H .non (.type "NoneType")
 | bl (x:Bool):wJ K H (.bl x) (.type "bool")
 | int (i:Int):wJ K H (.int i) (.type "int")
 | str (x:Str):wJ K H (.str x) (.type "str")
 | flt (x:UInt64):wJ K H (.flt x) (.type "float")
 | lst {a:Addr} {xs:List V} (e:H a=some (.lst xs)):wJ K H (.ref a) (.type "list")
 | Ja {a:Addr} {o:Obj} {xs:List V} (e:H a=some (.Ja o (.lst xs))):wJ K H (.ref a) (.type "list")
 | tup {a:Addr} {xs:List V} (e:H a=some (.tup xs)):wJ K H (.ref a) (.type "tuple")
 | dK {a:Addr} {kvs:List (Key×V)} (e:H a=some (.dK kvs)):wJ K H (.ref a) (.type "dict")
 | dT {a:Addr} {kvs:List (List Key×V)} (e:H a=some (.dT kvs)):wJ K H (.ref a) (.type "dict")
 | ins {a C dx:Addr} {fs:List (Str×V)} (e:H a=some (.ins C dx fs)) (cl:Cls K C) (ha:PySem.W.findIn K (.ref C) "__class__" = some (some (.builtin "object.__class__")))
   (hn:PySem.W.specialIn K (.builtin "object.__class__") "__get__" = some (some (.builtin "getset_descriptor.__get__"))) (htk:PySem.W.takesIn K (.builtin "object.__class__")=some true)
   (hm:PySem.W.mroIn K C (.type "object")=some true):wJ K H (.ref a) (.ref C)
end
structure gM (k:Nat) (A:Around):Prop where
 hd:A.handled=none
 dp:A.depth+3*k+5<recursionLimit
 un:A.units+16*k+200<cLine
 gd:A.guards=some []
theorem gM.mono {j k:Nat} {A:Around} (r:gM k A) (h:j<=k):gM j A:=⟨r.hd,by have:=r.dp; omega,by have:=r.un; omega,r.gd⟩
theorem gM.deeper {k:Nat} {A:Around} (r:gM (k+1) A) (env:Env):gM k (A.deeper env):=
 ⟨r.hd,by have:=r.dp; show A.depth+1+3*k+5<_; omega,by have:=r.un; show A.units+3+16*k+200<_; omega,by first | exact r.gd | (simpa[Around.deeper,Around.under,Code.guards,Code.isGuard,guardIds,pushGuards] using r.gd)⟩
theorem gM.depth {k:Nat} {A:Around} (r:gM k A):A.depth<recursionLimit:=by have:=r.dp; omega
theorem gM.units {k:Nat} {A:Around} (r:gM k A):A.units+64<cLine:=by have:=r.un; omega
def Q9:TA:=fun _ H Q=>Q [] H
def G_ (ta:TE) (tr:TA):TA:=fun σ H Q=>ta σ H fun x H1=>tr σ H1 fun xs H2=>Q (x::xs) H2
section
variable {X:Cx} {e:Expr} {es:List Expr} {te:TE} {t:TA} {pos:Pos}
theorem ak:PA X [] Q9:=.mk <| fun _ _ _ _ H Q I h=>Calls.spliced_nil ⟨[],H,I,.nil,h⟩
theorem RQ (ha:PE X e te) (hr:PA X es t) (hs:starEach (e::es) X.env=(false,eval e X.env)::starEach es X.env:=by rfl):PA X (e::es) (G_ te t):=by
 refine .mk ?_
 intro pos pins s σ H Q I h
 rw[hs]
 show wpAny _ _ (spliced ((false,eval e X.env)::backTo pos (starEach es X.env))) _ _ s
 refine Calls.spliced_cons (cB (ha pins s σ H _ I h) fun u s1 qx=>?_)
 obtain⟨x,H1,I1,r1,q1⟩:=qx
 exact cB (hr pos pins s1 σ H1 _ I1 q1) fun us s2 ⟨xs,H2,I2,r2,q2⟩=>⟨x::xs,H2,I2,.cons r1 r2,q2⟩
def aaJ (t:TA):TE:=fun σ H Q=>t σ H fun xs H1=>xs.length<=sizeLine/\∀p,H1 p=none->Q (.ref p) (upd H1 p (.tup xs))
def Ym (t:TA):TE:=fun σ H Q=>t σ H fun xs H1=>xs.length<=sizeLine/\∀p,H1 p=none->Q (.ref p) (upd H1 p (.lst xs))
theorem V7 (h:PA X es t):PE X (.List es pos) (Ym t):=by
 refine .mk ?_
 intro pins s σ H Q I hq
 refine wpAny_List_spliced (cB (h pos pins s σ H _ I hq) fun us s1 ⟨xs,H1,I1,r,z,q⟩=>⟨by rw[<- r.length]; exact z,?_⟩)
 have hf:H1 s1.heap.objs.size=none:=I1.hok.fresh (cW _)
 refine⟨.ref s1.heap.objs.size,upd H1 s1.heap.objs.size (.lst xs),I1.laid (t':=s1.toks) (fun b u e=>gb _ e) (cW _) ?_,rfl,q _ hf⟩
 exact⟨z,us,0,r,dX _ rfl⟩
end
abbrev Sp:=List V->Hp->VK->XK->Prop
abbrev Jw:=List Env->Hp->Shared->XK->Value->Shared->Prop
structure T6 (P:Program) (w:World) (K:PySem.W.Frag) (mg:Str->Option Value) (base:Heap) (A:Around) (outer:List Env) (s:Shared) (H:Hp):Prop where
 frames:A.frames=some outer
 mod:Mod K mg base
 bs:∀b o,base.get? b=some o->s.heap.get? b=some o/\H b=none
 Qy:base.objs.size<=s.heap.objs.size
 tH:s.heap.FunFrames base outer
 WK:∀b∈frs outer,H b=none
 hok:lK P w H s.heap
 bare:AllBare s.gens
def CE (outer:List Env) (P:Program) (w:World) (H:Hp) (s:Shared) (Q:VK) (u:Value) (s':Shared):Prop:=
 ∃v H',s'.os=s.os/\AllBare s'.gens/\Un (frs outer) [] H H' s.heap s'.heap/\lK P w H' s'.heap/\RelV v u/\Q v H'
def CR (CX:Jw) (outer:List Env) (P:Program) (w:World) (H:Hp) (s:Shared) (Q:VK) (E:XK) (r:Result) (s':Shared):Prop:=
 match r with
 | .ok (.ret u)=>CE outer P w H s Q u s'
 | .ok _=>False
 | .error e=>CX outer H s E e s'
structure bM (P:Program) (w:World) (K:PySem.W.Frag) (mg:Str->Option Value) (base:Heap) (CX:Jw) (k:Nat) (f:Addr) (fd:FuncData) (ps:List Str) (sp:Sp):Prop where
 len:∀vs H Q E,sp vs H Q E->vs.length=ps.length
 run:∀(A:Around) (outer:List Env) (s:Shared) (H:Hp) (args:Args) (us:List Value) (vs:List V) (Q:VK) (E:XK),gM k A->T6 P w K mg base A outer s H->BindsTo s fd args (ps.zip us)->Vals vs us->sp vs H Q E ->
  codeAny (model P w) A (.call (.ref f) args) (CR CX outer P w H s Q E) s
theorem bM.mono {P:Program} {w:World} {K:PySem.W.Frag} {mg:Str->Option Value} {base:Heap} {CX:Jw} {j k:Nat} {f:Addr} {fd:FuncData} {ps:List Str} {sp:Sp} (F:bM P w K mg base CX j f fd ps sp) (h:j<=k) :
  bM P w K mg base CX k f fd ps sp:=⟨F.len,fun A outer s H args us vs Q E hr=>F.run A outer s H args us vs Q E (hr.mono h)⟩
section
variable {X:Cx} {pins:List (Addr×Obj)} {σ:St} {H:Hp} {s s':Shared}
theorem Inv.env0 (I:Inv X pins σ H s):T6 X.prog X.w X.K X.mg X.base X.A X.stack s H:=
 ⟨I.ok.frames,I.ok.mod,I.bs,nR I.ok.Qy I.sz,I.stack,I.tR,I.hok,I.bare⟩
theorem Inv.after {Q:VK} {u:Value} (I:Inv X pins σ H s) (h:CE X.stack X.prog X.w H s Q u s'):EP X pins σ Q u s':=by
 obtain⟨v,H',os,bare,un,hok,r,q⟩:=h
 obtain⟨hh,g,d,t,os'⟩:=s'
 obtain rfl:os'=s.os:=os
 exact⟨v,H',I.call (h':=hh) (g':=g) (d':=d) (t':=t) (ch:=[]) un hok bare (fun b z=>absurd z (by simp)),r,q⟩
end
def rQ (sp:Sp) (Lw:List V) (E:XK) (t:TA):TE:=fun σ H Q=>t σ H fun vs H1=>sp (vs++Lw) H1 Q E
def Binds (K:PySem.W.Frag) (fd:FuncData) (ps:List Str) (ds:List Value):Prop:=
 ∀(s:Shared) (us:List Value),K.In s.heap->(us++ds).length=ps.length->BindsTo s fd ⟨us,[]⟩ (ps.zip (us++ds))
theorem Binds.all {K:PySem.W.Frag} {fd:FuncData} {ps:List Str} (h:∀us:List Value,us.length=ps.length->bindArgs fd ⟨us,[]⟩=pure (ps.zip us)):Binds K fd ps []:=fun s us _ hl=>by
 rw[mL] at hl ⊢
 exact .of_eq (h us hl)
def Passes (CX:Jw) (X:Cx) (E:XK):Prop:=∀(pins:List (Addr×Obj)) (σ:St) (H:Hp) (s:Shared) (e:Value) (s':Shared),Inv X pins σ H s->CX X.stack H s E e s'->X.xe e s'
section
variable {X:Cx} {CX:Jw} {k:Nat} {f C:Addr} {fd:FuncData} {ps:List Str} {sp:Sp} {Lw:List V} {ds:List Value} {E:XK} {x m:Str} {p pos apos:Pos} {e o:Expr} {es:List Expr} {ta:TE} {t:TA}
theorem VJ {pins:List (Addr×Obj)} {σ:St} {H:Hp} {s:Shared} {Q:VK} {us:List Value} {vs:List V} (F:bM X.prog X.w X.K X.mg X.base CX k f fd ps sp) (hr:gM k X.A) (hb:Binds X.K fd ps ds) (hd:Vals Lw ds) (hx:Passes CX X E)
  (I:Inv X pins σ H s) (r:Vals vs us) (h:sp (vs++Lw) H Q E):wpAny (model X.prog X.w) X.A (call (.ref f) us) (EP X pins σ Q) X.xe s:=by
 have r2:Vals (vs++Lw) (us++ds):=r.append hd
 have hl:(us++ds).length=ps.length:=by rw[<- r2.length]; exact F.len _ _ _ _ h
 refine wpAny_call (codeAny_mono (F.run X.A X.stack s H ⟨us,[]⟩ (us++ds) (vs++Lw) Q E hr I.env0 (hb s us I.Ph hl) r2 h) fun r s' hq=>?_)
 cases r with
 | error e=>exact hx pins σ H s e s' I hq
 | ok fl=>
  cases fl with
  | ret u=>exact I.after hq
  | next=>exact False.elim hq
  | brk=>exact False.elim hq
  | cont=>exact False.elim hq
theorem HY (F:bM X.prog X.w X.K X.mg X.base CX k f fd ps sp) (hr:gM k X.A) (hg:Gl X x) (hm:X.mg x=some (.ref f)) (hk:PySem.W.keepIn X.K (.ref f)=true) (hb:Binds X.K fd ps ds) (hd:Vals Lw ds) (hx:Passes CX X E)
  (ha:PA X (e::es) t) (hdb:(x==("__debug__" : Str))=false:=by decide) (he:starEach (e::es) X.env=(false,eval e X.env)::starEach es X.env:=by rfl) (hpl:(backTo pos (starEach es X.env)).any (·.1)=false:=by rfl) :
  PE X (.Call (.Name x p) (e::es) [] pos) (rQ sp Lw E t):=by
 refine .mk ?_
 intro pins s σ H Q I h
 refine uW (qu I hg hm ?_ hdb)
 refine PySem.W.callWith_K (h₀:=X.base) I.ok.mod.Ls hk (cB (ha pos pins s σ H _ I h) fun us s1 ⟨vs,H1,I1,r,q⟩=>⟨I1.Ph,?_⟩) he hpl
 exact VJ F hr hb hd hx I1 r q
structure Mk (K:PySem.W.Frag) (C f:Addr):Prop where
 makes:PySem.W.makesIn K C=true
 init:PySem.W.findIn K (.ref C) "__init__" = some (some (.ref f))
 fn:PySem.W.isFn K (.ref f)=true
 kp:PySem.W.keepIn K (.ref C)=true
end
def PK (X:Cx) (kws:List Keyword) (t:TA):Prop:=
 ∀(pos:Pos) (pins:List (Addr×Obj)) (s:Shared) (σ:St) (H:Hp) (Q:List V->Hp->Prop),Inv X pins σ H s->t σ H Q->wpAny (model X.prog X.w) X.A (evalAll ((backToKw pos (keywordEach kws X.env)).map (·.2))) (AP X pins σ Q) X.xe s
section
variable {X:Cx} {CX:Jw} {k:Nat} {f C:Addr} {fd:FuncData} {ps ks:List Str} {sp:Sp} {E:XK} {x m:Str} {p pos apos Sy:Pos} {e o:Expr} {es:List Expr} {kws:List Keyword} {te ta:TE} {t tk:TA} {nm:Option Str}
theorem V2:PK X [] Q9:=fun _ _ _ _ H Q I h=>wpAny_evalAll_nil ⟨[],H,I,.nil,h⟩
theorem RK (ha:PE X e te) (hr:PK X kws t):PK X (⟨nm,e,Sy⟩::kws) (G_ te t):=by
 intro pos pins s σ H Q I h
 show wpAny _ _ (evalAll ((do let v <- eval e X.env; standAt pos; pure v)::(backToKw pos (keywordEach kws X.env)).map (·.2))) _ _ s
 refine wpAny_evalAll_cons (aN (cB (ha pins s σ H _ I h) fun u s1 ⟨x,H1,I1,r1,q1⟩=>aN (wV (bK ?_))))
 exact cB (hr pos pins s1 σ H1 _ I1 q1) fun us s2 ⟨xs,H2,I2,r2,q2⟩=>⟨x::xs,H2,I2,.cons r1 r2,q2⟩
structure ach (K:PySem.W.Frag) (fd:FuncData) (ps ks:List Str) (g:List Value->List Value->List Value) (gV:List V->List V->List V):Prop where
 to:∀(s:Shared) (us ws:List Value),K.In s.heap->(g us ws).length=ps.length->BindsTo s fd ⟨us,ks.zip ws⟩ (ps.zip (g us ws))
 rel:∀{vs:List V} {us:List Value} {zs:List V} {ws:List Value},Vals vs us->Vals zs ws->Vals (gV vs zs) (g us ws)
variable {g:List Value->List Value->List Value} {gV:List V->List V->List V}
end
structure aR (N P:List Str) (sc:Scope):Prop where
 kind:sc.kind=.function
 co:sc.isCoroutine=false
 gen:sc.isGenerator=false
 nd:N.Nodup
 pre:N.take P.length=P
 par:∀x∈P,sc.names.lookup x=some .local\/sc.names.lookup x=some .cell
 Wf:∀y∈sc.names,y.2≠.free
theorem yU {kindOf:Str->Option NameKind} {x:Str}:∀{binds:List (Str×Value)} {m:Str->Option Value},(∀v,(x,v)∉binds)->bindL kindOf binds m x=m x
 | [],_,_=>rfl
 | (n,v)::r,m,h=>by
  unfold bindL
  rw[yU fun w hw=>h w (il _ hw)]
  split
  ·have:x≠n:=by rintro rfl; exact h v jo
   simp[this]
  ·rfl
theorem yW {kindOf:Str->Option NameKind} {x:Str}:∀{binds:List (Str×Value)} {m:Str->Option Value},(∀v,(x,v)∉binds)->bindC kindOf binds m x=m x
 | [],_,_=>rfl
 | (n,v)::r,m,h=>by
  unfold bindC
  rw[yW fun w hw=>h w (il _ hw)]
  split
  ·rfl
  ·have:x≠n:=by rintro rfl; exact h v jo
   simp[this]
theorem yV {kindOf:Str->Option NameKind} {x:Str} {v:Value}:∀{P:List Str} {vs:List Value} {i:Nat} {m:Str->Option Value},P.Nodup->P[i]?=some x->vs[i]?=some v->kindOf x=some .local ->
  bindL kindOf (P.zip vs) m x=some v
 | [],_,_,_,_,h,_,_=>by simp at h
 | _::_,[],_,_,_,_,h,_=>by simp at h
 | p::P,w::vs,0,m,nd,h1,h2,hk=>by
  simp at h1 h2; subst h1; subst h2
  show bindL kindOf ((p,w)::P.zip vs) m p=_
  unfold bindL
  rw[yU fun v hv=>(Ft.mp nd).1 (List.of_mem_zip hv).1,aM hk]
  simp
 | p::P,w::vs,i+1,m,nd,h1,h2,hk=>by
  show bindL kindOf ((p,w)::P.zip vs) m x=_
  unfold bindL
  exact yV (i:=i) (Ft.mp nd).2 (by simpa using h1) (by simpa using h2) hk
theorem yX {kindOf:Str->Option NameKind} {x:Str} {v:Value}:∀{P:List Str} {vs:List Value} {i:Nat} {m:Str->Option Value},P.Nodup->P[i]?=some x->vs[i]?=some v->kindOf x≠some .local ->
  bindC kindOf (P.zip vs) m x=some v
 | [],_,_,_,_,h,_,_=>by simp at h
 | _::_,[],_,_,_,_,h,_=>by simp at h
 | p::P,w::vs,0,m,nd,h1,h2,hk=>by
  simp at h1 h2; subst h1; subst h2
  show bindC kindOf ((p,w)::P.zip vs) m p=_
  unfold bindC
  rw[yW fun v hv=>(Ft.mp nd).1 (List.of_mem_zip hv).1,aK hk]
  simp
 | p::P,w::vs,i+1,m,nd,h1,h2,hk=>by
  show bindC kindOf ((p,w)::P.zip vs) m x=_
  unfold bindC
  exact yX (i:=i) (Ft.mp nd).2 (by simpa using h1) (by simpa using h2) hk
def start (N:List Str) (vs:List V):St:=vs.map some++List.replicate (N.length-vs.length) none
def fO (CX:Jw) (P:Program) (w:World) (K:PySem.W.Frag) (mg:Str->Option Value) (base:Heap) (N:List Str) (qual:Str) (scope:Scope) (f:Addr) (cd:Value) (A:Around) (outer:List Env) (s:Shared) (H:Hp) (E:XK):Cx where
 prog:=P
 w:=w
 K:=K
 mg:=mg
 base:=base
 A:=A.deeper (envOfC qual scope s.heap.objs.size f cd)
 N:=N
 s₀:=s
 H₀:=H
 env:=envOfC qual scope s.heap.objs.size f cd
 outer:=outer
 stack:=envOfC qual scope s.heap.objs.size f cd::outer
 ex:=[]
 calm:=true
 fn:=fun _=>true
 pn:=[]
 xe:=fun e s'=>wpAny (model P w) (A.deeper (envOfC qual scope s.heap.objs.size f cd)) (leaving (envOfC qual scope s.heap.objs.size f cd) e) (fun _ s''=>CX outer H s E e s'') (fun e' s''=>CX outer H s E e' s'') s'
theorem Ea {sc:Scope} {n:Nat} {x:Str} (h:sc.names.lookup x=some .cell):∃c,(cellsFrom n sc.names []).lookup x=some c:=by
 have q:=PySem.W.cellsFrom_some sc.names n [] (.inl h)
 exact Cq.mp q
theorem yG {CX:Jw} {P:Program} {w:World} {K:PySem.W.Frag} {mg:Str->Option Value} {base:Heap} {N ps:List Str} {qual:Str} {scope:Scope} {f:Addr} {cd:Value} {A:Around} {outer:List Env} {s s1:Shared} {H:Hp} {E:XK} {us:List Value} {vs:List V}
  (S:aR N ps scope) (hd:A.handled=none) (e0:T6 P w K mg base A outer s H) (hl:vs.length=ps.length) (r:Vals vs us)
  (x:InCallC s s.heap.objs.size (bindL (envOfC qual scope s.heap.objs.size f cd).kindOf (ps.zip us) fun _=>none) (cellsFrom (s.heap.objs.size+1) scope.names []) (bindC (envOfC qual scope s.heap.objs.size f cd).kindOf (ps.zip us) fun _=>none) s1) :
  Inv (fO CX P w K mg base N qual scope f cd A outer s H E) [] (start N vs) H s1:=by
 have hpl:ps.length<=N.length:=by have:=jl List.length S.pre; rw[nW] at this; omega
 obtain⟨h1,tk,rfl,hk⟩:=x.done
 have Za:∀b:Addr,b∉(fO CX P w K mg base N qual scope f cd A outer s H E).ex:=fun b z=>absurd (show b∈([]:List Addr) from z) (by simp)
 refine⟨⟨e0.mod,S.kind,rfl,rfl,cW _,fun y z c h1 h2=>?_,fun y hy=>?_,fun y c _ h=>?_,fun _=>hd,Around.frames_deeper e0.frames,.inr ⟨rfl,rfl⟩,fun b z=>absurd z (Za b),e0.bs,e0.Qy,fun b _ _=>Za b,fun b z=>absurd z (Za b),e0.tH,e0.WK⟩,
  rfl,e0.bare,Un.kept hk,⟨_,x.toInCall.ns,fun i y v h1 h2 h3=>?_⟩,fun y c h=>⟨_,x.cell y c h⟩,e0.hok.fresh (cW _),fun y c h=>?_,fun p hp=>absurd (show p∈([]:List (Addr×Obj)) from hp) (by simp),e0.hok.kept hk,?_⟩
 ·exact name_of_addr x.apart (PySem.mem_of_lookup h1) (PySem.mem_of_lookup h2)
 ·have hy:scope.names.lookup y=some .cell\/scope.names.lookup y=some .free:=hy
  rcases hy with hy | hy
  ·exact Ea hy
  ·exact absurd rfl (S.Wf _ (PySem.mem_of_lookup hy))
 ·exact iz (x.above y c (PySem.mem_of_lookup h))
 ·have hi:i<vs.length:=by
   unfold start at h2
   by_cases hi:i<vs.length
   ·exact hi
   ·rw[zO (by simpa using hi)] at h2
    rw[Nx] at h2
    split at h2 <;> cases h2
  have ha:vs[i]?=some v:=by
   unfold start at h2
   rw[Cw (by simpa using hi),g8] at h2
   cases e:vs[i]? with
   | none=>rw[e] at h2; cases h2
   | some a=>rw[e] at h2; cases h2; rfl
  obtain⟨u,hu,rv⟩:=r.get ha
  have hp:ps[i]?=some y:=by
   rw[<- S.pre,List.getElem?_take_of_lt (by omega)]; exact h1
  have ndP:ps.Nodup:=by rw[<- S.pre]; exact S.nd.sublist (List.take_sublist _ _)
  refine⟨u,rv,?_⟩
  rcases S.par y (jW hp) with k | k
  ·exact .inl ⟨k,yV ndP hp hu k⟩
  ·obtain⟨c,e⟩:=Ea (n:=s.heap.objs.size+1) k
   refine .inr ⟨.inl k,c,e,?_⟩
   have q:=x.cell y c e
   rw[yX ndP hp hu (by show scope.names.lookup y≠_; rw[k]; decide)] at q
   exact q
 ·exact e0.hok.fresh (iz (x.above y c (PySem.mem_of_lookup h)))
 ·unfold start
  show _=N.length
  rw[gD,bR,Ck]
  omega
theorem Vb {CX:Jw} {P:Program} {w:World} {K:PySem.W.Frag} {mg:Str->Option Value} {base:Heap} {k:Nat} {f:Addr} {name qual:Str} {params:Arguments} {body:List Stmt} {scope:Scope} {dV kV doc pm cdv ct oc:Value} {an od:Option Addr}
  {osl:Array (Option Value)} {N ps:List Str} {sp:Sp} (lk:K.lookup f=some ⟨oc,od,.func (PySem.W.fnOf name qual params body scope dV kV doc pm an cdv ct),osl⟩) (hcd:PySem.W.codeIn K cdv qual=true) (S:aR N ps scope)
  (len:∀vs H Q E,sp vs H Q E->vs.length=ps.length)
  (hbody:∀(A:Around) (outer:List Env) (s:Shared) (H:Hp) (vs:List V) (Q:VK) (E:XK),gM k (A.deeper (envOfC qual scope s.heap.objs.size f cdv))->sp vs H Q E ->
   ∃t,xK (fO CX P w K mg base N qual scope f cdv A outer s H E) body t/\t { nx:=fun _ H'=>Q .non H',rt:=Q } (start N vs) H) :
  bM P w K mg base CX (k+1) f (PySem.W.fnOf name qual params body scope dV kV doc pm an cdv ct) ps sp:=by
 refine⟨len,fun A outer s H args us vs Q E hr e0 hb r hsp=>?_⟩
 have hl:=len _ _ _ _ hsp
 have KX:K.In s.heap:=e0.mod.Ls.keeps fun b o e=>(e0.bs b o e).1
 have lim:s.heap.NoLimit:=e0.mod.nolimit.keeps fun b o e=>(e0.bs b o e).1
 have hkind:∀y∈ps.zip us,scope.names.lookup y.1=some .local\/(scope.names.lookup y.1=some .cell/\((cellsFrom (s.heap.objs.size+1) scope.names []).lookup y.1).isSome=true):=fun⟨n,v⟩ hy=>by
  rcases S.par n (List.of_mem_zip hy).1 with q | q
  ·exact .inl q
  ·exact .inr ⟨q,PySem.W.cellsFrom_some _ _ _ (.inl q)⟩
 refine codeAny_call_function hr.depth (KX _ _ lk) rfl S.co S.gen rfl (PySem.W.codeRec_of KX hcd) (hb _ _ _ _ ?_)
 refine wpAny_newFunctionEnv_cells S.kind hkind fun env he s1 x=>?_
 subst he
 refine⟨lim.keeps x.toInCall.keep,codeAny_func ?_⟩
 obtain⟨t,ht,hq⟩:=hbody A outer s H vs Q E (hr.deeper _) hsp
 have I:Inv (fO CX P w K mg base N qual scope f cdv A outer s H E) [] (start N vs) H s1:=yG S hr.hd e0 hl r x
 refine fV (ht [] s1 (start N vs) H _ I hq) (fun fl s' hs=>?_) fun e s' hs=>hs
 have fin:∀{σ':St} {H':Hp} {v:V} {u:Value},Inv (fO CX P w K mg base N qual scope f cdv A outer s H E) [] σ' H' s'->RelV v u->Q v H'->CE outer P w H s Q u s':=
  fun {σ' H' v u} J rv q=>⟨v,H',J.os,J.bare,J.base,J.hok,rv,q⟩
 cases fl with
 | ret u=>
  obtain⟨v,σ',H',J,rv,q⟩:=hs
  exact fin J rv q
 | next=>
  obtain⟨σ',H',J,q⟩:=hs
  exact fin (v:=V.non) (u:=Value.none) J rfl q
 | brk=>
  obtain⟨_,_,_,q⟩:=hs
  exact False.elim q
 | cont=>
  obtain⟨_,_,_,q⟩:=hs
  exact False.elim q
section
variable {X:Cx} {x:Str} {p pos:Pos} {e:Expr} {es:List Expr} {t:TA} {id T:String} {r:List V->Hp->VK->Prop}
def Vx (r:List V->Hp->VK->Prop) (t:TA):TE:=fun σ H Q=>t σ H fun vs H1=>r vs H1 Q
theorem Oe (hc:dI X (.builtin id) r) (hg:Gl X x) (hm:X.mg x=none) (hv:bootBuiltins x=some (.builtin id)) (ha:PA X (e::es) t) (hn:x ≠ "__name__" := by decide) (hdb:(x==("__debug__" : Str))=false:=by decide)
  (he:starEach (e::es) X.env=(false,eval e X.env)::starEach es X.env:=by rfl) (hpl:(backTo pos (starEach es X.env)).any (·.1)=false:=by rfl):PE X (.Call (.Name x p) (e::es) [] pos) (Vx r t):=by
 refine .mk ?_
 intro pins s σ H Q I h
 refine uW (lA I hg hm hv ?_ hn hdb)
 exact PyProof.Rows.callWith_builtin1 (cB (ha pos pins s σ H _ I h) fun us s1 ⟨vs,H1,I1,r1,q1⟩=>hc pins s1 σ H1 vs us Q I1 r1 q1) he hpl
theorem J9 (hc:dI X (.type T) r) (hg:Gl X x) (hm:X.mg x=none) (hv:bootBuiltins x=some (.type T)) (ha:PA X (e::es) t) (hn:x ≠ "__name__" := by decide) (hdb:(x==("__debug__" : Str))=false:=by decide)
  (he:starEach (e::es) X.env=(false,eval e X.env)::starEach es X.env:=by rfl) (hpl:(backTo pos (starEach es X.env)).any (·.1)=false:=by rfl):PE X (.Call (.Name x p) (e::es) [] pos) (Vx r t):=by
 refine .mk ?_
 intro pins s σ H Q I h
 refine uW (lA I hg hm hv ?_ hn hdb)
 exact PyProof.Rows.callWith_type1 (cB (ha pos pins s σ H _ I h) fun us s1 ⟨vs,H1,I1,r1,q1⟩=>hc pins s1 σ H1 vs us Q I1 r1 q1) he hpl
theorem FP (hc:dI X (.type T) r) (hg:Gl X x) (hm:X.mg x=none) (hv:bootBuiltins x=some (.type T)) (hn:x ≠ "__name__" := by decide) (hdb:(x==("__debug__" : Str))=false:=by decide) :
  PE X (.Call (.Name x p) [] [] pos) (Vx r Q9):=by
 refine .mk ?_
 intro pins s σ H Q I h
 refine uW (lA I hg hm hv ?_ hn hdb)
 exact PyProof.Rows.callWith_type0 (hc pins s σ H [] [] Q I .nil h)
end
end L2
namespace HT
open PySem PyProof.Rows
section
open PySem.SeqAt
open PySem.AutoSeq1 (wpAny_loadPart')
open PySem.MeetsSeq PySem.MeetsSeq2 PySem.MeetsSeq3
end
section
variable {prog:Program} {w:World} {A:Around} {E:Value->Shared->Prop} {s:Shared}
theorem Tn {t b:Addr} {vs ws:List Value} {Q:Value->Shared->Prop} (ht:IsTup s.heap t vs.toArray) (hb:IsTup s.heap b ws.toArray) (hv:vs≠[])
  (h1:ws=[]->Q (.ref t) s) (h2:ws≠[]->Q (.ref s.heap.objs.size) { s with heap:=s.heap.push { cls:=.type "tuple",data:=.seq (vs++ws).toArray } })
  (hsz:vs.length+ws.length<=sizeLine):wpAny (model prog w) A (binaryOp .Add (.ref t) (.ref b)) Q E s:=by
 obtain⟨⟨cls,dd,data,sl⟩,ho,hc,n,hd⟩:=id ht
 obtain⟨⟨cls2,dd2,data2,sl2⟩,ho2,hc2,n2,hd2⟩:=id hb
 simp only at hc hd hc2 hd2
 subst hc hd hc2 hd2
 have e:vs.toArray++ws.toArray=(vs++ws).toArray:=by simp
 by_cases hw:ws=[]
 ·exact concat_meets ⟨_,ho,rfl⟩ ⟨_,ho2,rfl⟩ noFill_tuple_add seq_tuple_add PySem.F.slot_tuple_add PySem.F.entry_tuple_add (PySem.F.args_tuple_add_2 _ _)
   (tuple_addW1 t b vs.toArray ws.toArray n n2 dd dd2 sl sl2 (by simpa using hv) (by simp[hw])) ⟨ho,ho2,h1 hw⟩
 ·refine concat_meets ⟨_,ho,rfl⟩ ⟨_,ho2,rfl⟩ noFill_tuple_add seq_tuple_add PySem.F.slot_tuple_add PySem.F.entry_tuple_add (PySem.F.args_tuple_add_2 _ _)
   (tuple_addW2 t b vs.toArray ws.toArray n n2 dd dd2 sl sl2 (by simpa using hv) (by simpa using hw) (by rw[fJ,fJ]; exact hsz)) ⟨ho,ho2,?_⟩
  rw[e]
  exact h2 hw
def eZ (n d:Nat):Option Int->Nat
 | none=>d
 | some v=>if v<0 then(v+(n:Int)).toNat else min v.toNat n
theorem BX (n d:Nat):eZ n d none=d:=rfl
theorem Hr (n d k:Nat):eZ n d (some (k:Int))=min k n:=by
 show(if(k:Int)<0 then((k:Int)+(n:Int)).toNat else min (k:Int).toNat n)=min k n
 rw[aK (by omega),uU]
theorem VG (n d:Nat) (hd:d<=n) (o:Option Int):eZ n d o<=n:=by
 cases o with
 | none=>exact hd
 | some v=>
  show(if v<0 then(v+(n:Int)).toNat else min v.toNat n)<=n
  by_cases hv:v<0
  ·rw[aM hv]; omega
  ·rw[aK hv]; exact Nat.min_le_right _ _
theorem Jj (v:Int) (n d:Nat):(if v<0 then max (v+(n:Int)) 0 else min v (n:Int))=((eZ n d (some v):Nat):Int):=by
 show(if v<0 then max (v+(n:Int)) 0 else min v (n:Int))=(((if v<0 then(v+(n:Int)).toNat else min v.toNat n):Nat):Int)
 by_cases hv:v<0
 ·simp only[aM hv]; omega
 ·simp only[aK hv]; omega
theorem GX (lo hi:Option Int) (n:Nat):Builtin.Slice.sliceAdjust lo hi 1 (n:Int)=(((eZ n 0 lo:Nat):Int),((eZ n n hi:Nat):Int)):=by
 have h1:¬((1:Int)<0):=by omega
 unfold Builtin.Slice.sliceAdjust
 simp only[h1,if_false]
 refine Prod.ext ?_ ?_
 ·cases lo with
  | none=>rfl
  | some v=>exact Jj v n 0
 ·cases hi with
  | none=>rfl
  | some v=>exact Jj v n n
theorem FJ (i j:Nat):Builtin.Slice.slicePlaces (i:Int) (j:Int) 1=j-i:=by
 unfold Builtin.Slice.slicePlaces
 have h1:(1:Int)>0:=by omega
 simp only[h1,if_true,Int.ediv_one]
 split <;> omega
theorem uy {v:Value} {o:Option Int} {Q:Option Int->Shared->Prop} (p:IsPart v o) (h:Q o s):wpAny (model prog w) A (Builtin.Slice.slicePartIndex v) Q E s:=by
 cases p with
 | none=>exact slicePart_none h
 | int i t=>exact slicePart_int h
theorem jR {sl:Addr} {vl vu:Value} {lo hi:Option Int} {n:Nat} {Q:Int×Int×Nat->Shared->Prop} (hs:s.heap.IsSliceOf sl vl vu .none) (pl:IsPart vl lo) (pu:IsPart vu hi)
  (h:Q (((eZ n 0 lo:Nat):Int),1,eZ n n hi-eZ n 0 lo) s):wpAny (model prog w) A (Builtin.Slice.sliceApplied (.ref sl) (pure (n:Int))) Q E s:=by
 obtain⟨os,hos,hcs,hds⟩:=id hs
 unfold Builtin.Slice.sliceApplied Builtin.Slice.sliceFields
 refine aN (aN (iZ hos hds (x:=vl) rfl (aN (iZ hos hds (x:=vu) rfl (aN (iZ hos hds (x:=.none) rfl (bK ?_)))))))
 refine aN (slicePart_none ?_)
 show wpAny _ _ (if((1:Int)==0)=true then _ else _) _ _ s
 rw[aK (by decide)]
 refine aN (uy pl (aN (uy pu (aN (bK ?_)))))
 show wpAny _ _ (match Builtin.Slice.sliceAdjust lo hi 1 (n:Int) with | (lo,hi)=>pure (lo,(1:Int),Builtin.Slice.slicePlaces lo hi 1)) _ _ s
 rw[GX lo hi n]
 show wpAny _ _ (pure (((eZ n 0 lo:Nat):Int),(1:Int),Builtin.Slice.slicePlaces ((eZ n 0 lo:Nat):Int) ((eZ n n hi:Nat):Int) 1)) _ _ s
 rw[FJ]
 exact bK h
theorem N8 (xs:Array Value) (i k:Nat):((List.range k).filterMap fun(m:Nat)=>xs[((i:Int)+(m:Int)*1).toNat]?).toArray=((xs.toList.drop i).take k).toArray:=by
 have e:(fun(m:Nat)=>xs[((i:Int)+(m:Int)*1).toNat]?)=fun m=>xs[i+m]?:=by
  funext m
  have:((i:Int)+(m:Int)*1).toNat=i+m:=by omega
  rw[this]
 rw[e]
 have:=pick_run xs i k
 rw[List.filterMap_map] at this
 have e2:((fun x=>xs[x]?)∘fun x=>i+x)=fun m=>xs[i+m]?:=rfl
 rw[e2] at this
 rw[this]
theorem qC {t sl:Addr} {items:Array Value} {vl vu:Value} {lo hi:Option Int} {Q:Value->Shared->Prop} (ht:IsTup s.heap t items) (hs:s.heap.IsSliceOf sl vl vu .none) (pl:IsPart vl lo) (pu:IsPart vu hi)
  (hw:¬(eZ items.size 0 lo=0/\eZ items.size items.size hi=items.size))
  (h:Q (.ref s.heap.objs.size) { s with heap:=s.heap.push { cls:=.type "tuple",data:=.seq ((items.toList.drop (eZ items.size 0 lo)).take (eZ items.size items.size hi-eZ items.size 0 lo)).toArray } })
  (hsz:items.size<=sizeLine):wpAny (model prog w) A (getItem (.ref t) (.ref sl)) Q E s:=by
 have IV:sizeOk (.seq ((items.toList.drop (eZ items.size 0 lo)).take (eZ items.size items.size hi-eZ items.size 0 lo)).toArray):=by
  show((items.toList.drop (eZ items.size 0 lo)).take (eZ items.size items.size hi-eZ items.size 0 lo)).toArray.size<=sizeLine
  rw[fJ,nW,Fw,lQ]
  omega
 have hj:eZ items.size items.size hi<=items.size:=VG _ _ (cW _) hi
 obtain⟨os,hos,hcs,hds⟩:=id hs
 have hTs:s.TypeIs (.ref sl) "slice" := ⟨os,hos,hcs⟩
 unfold getItem
 try with_reducible refine oO ?_
 first | refine aN (bK ?_) | skip
 refine aN (wpAny_sequenceKey ht.typeIs (by decide) ?_)
 refine aN (J5 (name:=Str.ofString "__getitem__") ht.typeIs PyProof.Rows.slot_tuple_getitem
  (uT PyProof.Rows.slot_tuple_getitem ht.typeIs entry_tuple_getitem ?_ (args_tuple_getitem _ _)))
 show wpAny _ _ (Builtin.Tuple.tupleItemsOf (.ref t) >>= _) _ _ s
 refine aN (tupleItemsOf_ ht ?_)
 refine aN (ym hTs ?_)
 rw[aM (by decide)]
 refine aN (jR hs pl pu ?_)
 have hno:¬((((eZ items.size 0 lo:Nat):Int)==0&&(1:Int)==1&&(eZ items.size items.size hi-eZ items.size 0 lo)==items.size)=true):=by
  intro q
  rw[wW,wW] at q
  have q1:((eZ items.size 0 lo:Nat):Int)=0:=eq_of_beq q.1.1
  have q2:eZ items.size items.size hi-eZ items.size 0 lo=items.size:=eq_of_beq q.2
  exact hw ⟨by omega,by omega⟩
 show wpAny _ _ (if(((eZ items.size 0 lo:Nat):Int)==0&&(1:Int)==1&&(eZ items.size items.size hi-eZ items.size 0 lo)==items.size)=true then _ else _) _ _ s
 rw[aK hno,N8]
 first
  | exact aN (m:=Builtin.Tuple.tupleExact _) (q_ (bK ⟨_,rfl,bK h⟩) IV)
  | exact aN (m:=Builtin.Tuple.tupleExact _) (q_ (aN (bK (bK ⟨_,rfl,bK h⟩))) IV)
  | exact aN (aN (m:=Builtin.Tuple.tupleExact _) (q_ (bK (bK ⟨_,rfl,bK h⟩)) IV))
  | exact aN (aN (m:=Builtin.Tuple.tupleExact _) (q_ (bK ⟨_,rfl,bK h⟩) IV))
end
end HT
namespace L2
open PySem PySem.Spec PyProof.Rows
abbrev TO:=St->Hp->(Option Int->Hp->Prop)->Prop
structure PO (X:Cx) (e:Option Expr) (t:TO):Prop where
 mk ::
 go :
 ∀(pins:List (Addr×Obj)) (s:Shared) (σ:St) (H:Hp) (Q:Option Int->Hp->Prop),Inv X pins σ H s->t σ H Q ->
  wpAny (model X.prog X.w) X.A (evalPart e X.env) (fun u s'=>∃o H',Inv X pins σ H' s'/\IsPart u o/\Q o H') X.xe s
instance {X:Cx} {e:Option Expr} {t:TO}:CoeFun (PO X e t) (fun _=>
 ∀(pins:List (Addr×Obj)) (s:Shared) (σ:St) (H:Hp) (Q:Option Int->Hp->Prop),Inv X pins σ H s->t σ H Q ->
  wpAny (model X.prog X.w) X.A (evalPart e X.env) (fun u s'=>∃o H',Inv X pins σ H' s'/\IsPart u o/\Q o H') X.xe s):=⟨PO.go⟩
def GZ:TO:=fun _ H Q=>Q none H
def Ui (t:TE):TO:=fun σ H Q=>t σ H fun x H1=>∃i,x=.int i/\Q (some i) H1
section
variable {X:Cx} {e:Expr} {te:TE} {lo hi:Option Expr} {tl th:TO} {pos p2:Pos}
theorem fW:PO X none GZ:=by
 refine .mk ?_
 intro pins s σ H Q I h
 rw[evalPart_none]
 exact bK ⟨none,H,I,.none,h⟩
theorem eX (h:PE X e te):PO X (some e) (Ui te):=by
 refine .mk ?_
 intro pins s σ H Q I hw
 rw[evalPart_some]
 refine cB (h pins s σ H _ I hw) fun u s1 qx=>?_
 obtain⟨x,H1,I1,r1,q1⟩:=qx
 obtain⟨i,rfl,q⟩:=q1
 obtain⟨t,rfl⟩:=r1
 exact⟨some i,H1,I1,.int i t,q⟩
structure XD (X:Cx) (r:V->Option Int->Option Int->Hp->VK->Prop):Prop where
 mk ::
 go :
 ∀(pins:List (Addr×Obj)) (s:Shared) (σ:St) (H:Hp) (x:V) (v vl vu:Value) (lo hi:Option Int) (sl:Addr) (Q:VK),Inv X pins σ H s->RelV x v->s.heap.IsSliceOf sl vl vu .none->IsPart vl lo->IsPart vu hi->r x lo hi H Q ->
  ∃T id,typeLookup (.type T) "__getitem__" = pure (some (.builtin id))/\s.TypeIs v T/\wpAny (model X.prog X.w) X.A (getItem v (.ref sl)) (EP X pins σ Q) X.xe s
instance {X:Cx} {r:V->Option Int->Option Int->Hp->VK->Prop}:CoeFun (XD X r) (fun _=>
 ∀(pins:List (Addr×Obj)) (s:Shared) (σ:St) (H:Hp) (x:V) (v vl vu:Value) (lo hi:Option Int) (sl:Addr) (Q:VK),Inv X pins σ H s->RelV x v->s.heap.IsSliceOf sl vl vu .none->IsPart vl lo->IsPart vu hi->r x lo hi H Q ->
  ∃T id,typeLookup (.type T) "__getitem__" = pure (some (.builtin id))/\s.TypeIs v T/\wpAny (model X.prog X.w) X.A (getItem v (.ref sl)) (EP X pins σ Q) X.xe s):=⟨XD.go⟩
def tSl (r:V->Option Int->Option Int->Hp->VK->Prop) (te:TE) (tl th:TO):TE:=fun σ H Q=>te σ H fun x H1=>tl σ H1 fun l H2=>th σ H2 fun u H3=>r x l u H3 Q
theorem dR {r:V->Option Int->Option Int->Hp->VK->Prop} (hr:XD X r) (he:PE X e te) (hl:PO X lo tl) (hu:PO X hi th):PE X (.Subscript e (.Slice lo hi none p2) pos) (tSl r te tl th):=by
 refine .mk ?_
 intro pins s σ H Q I h
 refine Subscript_ (cB (he pins s σ H _ I h) fun v s1 qx=>?_)
 obtain⟨x,H1,I1,r1,q1⟩:=qx
 refine wpAny_Slice (cB (hl pins s1 σ H1 _ I1 q1) fun vl s2 ⟨l,H2,I2,pl,q2⟩=>cB (hu pins s2 σ H2 _ I2 q2) fun vu s3 qx=>?_)
 obtain⟨u,H3,I3,pu,q3⟩:=qx
 rw[evalPart_none]
 refine bK ?_
 have I4:Inv X pins σ H3 { s3 with heap:=s3.heap.push { cls:=.type "slice",data:=.fields #[vl,vu,.none] } }:=I3.kept (t':=s3.toks) fun b ob q=>gb _ q
 obtain⟨T,id,hT,ht,hg⟩:=hr pins { s3 with heap:=s3.heap.push { cls:=.type "slice",data:=.fields #[vl,vu,.none] } } σ H3 x v vl vu l u s3.heap.objs.size Q I4 r1 (Heap.IsSliceOf.new ..) pl pu q3
 show wpAny (model X.prog X.w) X.A (subscriptTail e (.Slice lo hi none p2) v (.ref s3.heap.objs.size)) (EP X pins σ Q) X.xe { s3 with heap:=s3.heap.push { cls:=.type "slice",data:=.fields #[vl,vu,.none] } }
 exact tail_any (ops:=[.ref s3.heap.objs.size,v]) ht hT hg (by with_unfolding_all rfl)
def nq (xs:List V) (lo hi:Option Int):List V:=(xs.drop (HT.eZ xs.length 0 lo)).take (HT.eZ xs.length xs.length hi-HT.eZ xs.length 0 lo)
theorem nj (xs:List V) (lo hi:Option Int):(nq xs lo hi).length<=xs.length:=by
 unfold nq
 rw[nW,Fw]
 omega
def aaU (K:PySem.W.Frag):V->Option Int->Option Int->Hp->VK->Prop:=fun x lo hi H Q=>∃a xs,x=.ref a/\cA K H a xs /\
 ¬(HT.eZ xs.length 0 lo=0/\HT.eZ xs.length xs.length hi=xs.length)/\∀p,H p=none->Q (.ref p) (upd H p (.tup (nq xs lo hi)))
theorem VD:XD X (aaU X.K):=by
 refine .mk ?_
 intro pins s σ H x v vl vu lo hi sl Q I rx hs pl pu h
 obtain⟨a,xs,rfl,hx,hw,q⟩:=h
 cases rx
 obtain⟨its,r,ht,hz⟩:=I.tuple hx
 have hlen:its.toArray.size=xs.length:=by rw[fJ]; exact r.length.symm
 refine⟨"tuple",_,PyProof.Rows.slot_tuple_getitem.lookup,ht.typeIs,?_⟩
 refine HT.qC ht hs pl pu (by rw[hlen]; exact hw) ?_ (by rw[hlen]; exact hz)
 rw[hlen]
 refine⟨.ref s.heap.objs.size,_,I.laid (t':=s.toks) (o:=.tup (nq xs lo hi)) (fun b ob q=>gb _ q) (cW _) ?_,rfl,q _ (I.hok.fresh (cW _))⟩
 exact⟨nR (nj xs lo hi) hz,_,(r.drop (HT.eZ xs.length 0 lo)).take (HT.eZ xs.length xs.length hi-HT.eZ xs.length 0 lo),IsTup.new _ _⟩
def YW (K:PySem.W.Frag):R2:=fun x y H Q=>∃a b xs ys,x=.ref a/\y=.ref b/\cA K H a xs/\cA K H b ys/\xs≠[]/\xs.length+ys.length<=sizeLine /\
 (ys=[]->Q (.ref a) H)/\(ys≠[]->∀p,H p=none->Q (.ref p) (upd H p (.tup (xs++ys))))
theorem Vals.z7 {xs:List V} {us:List Value} (r:Vals xs us):us=[]↔xs=[]:=by
 cases r with
 | nil=>simp
 | cons _ _=>simp
theorem RX:oG X (binaryOp .Add) (YW X.K):=by
 refine .mk ?_
 intro pins s σ H x y v u Q I rx ry h
 obtain⟨a,b,xs,ys,rfl,rfl,ha,hb,hx,hz,q1,q2⟩:=h
 cases rx
 cases ry
 obtain⟨its,r1,p1,_⟩:=I.tuple ha
 obtain⟨its2,r2,p2,_⟩:=I.tuple hb
 refine HT.Tn p1 p2 (fun z=>hx (r1.z7.mp z)) (fun z=>⟨.ref a,H,I,rfl,q1 (r2.z7.mp z)⟩) (fun z=>?_) (by rw[<- r1.length,<- r2.length]; exact hz)
 refine⟨.ref s.heap.objs.size,_,I.laid (t':=s.toks) (o:=.tup (xs++ys)) (fun b ob q=>gb _ q) (cW _) ?_,rfl,q2 (fun w=>z (r2.z7.mpr w)) _ (I.hok.fresh (cW _))⟩
 exact⟨by rw[gD]; exact hz,_,r1.append r2,IsTup.new _ _⟩
end
def S5 (n:Nat) (i:Int):Option Nat:=if 0<=i then(if i<n then some i.toNat else none) else if -(n:Int)<=i then some (i+n).toNat else none
def GR {α:Type} (xs:List α) (i:Int):Option α:=(S5 xs.length i).bind fun j=>xs[j]?
theorem Ir {n:Nat} {i:Int} {j:Nat} (h:S5 n i=some j):seqIndex? i n=some j/\j<n/\-(n:Int)<=i/\i<n:=by
 unfold S5 at h
 by_cases h0:0<=i
 ·rw[aM h0] at h
  by_cases h1:i<n
  ·rw[aM h1] at h
   have e:i.toNat=j:=Option.some.inj h
   exact⟨by rw[seqIndex_of h0 h1,e],by omega,by omega,h1⟩
  ·rw[aK h1] at h; cases h
 ·rw[aK h0] at h
  by_cases h1:-(n:Int)<=i
  ·rw[aM h1] at h
   have e:(i+n).toNat=j:=Option.some.inj h
   exact⟨by rw[seqIndex_neg (by omega) h1,e],by omega,h1,by omega⟩
  ·rw[aK h1] at h; cases h
theorem Bc {α:Type} {xs:List α} {i:Int} {v:α} (h:GR xs i=some v):∃j,seqIndex? i xs.length=some j/\xs[j]?=some v/\j<xs.length/\-(xs.length:Int)<=i/\i<xs.length:=by
 unfold GR at h
 cases e:S5 xs.length i with
 | none=>rw[e] at h; cases h
 | some j=>
  rw[e] at h
  obtain⟨h1,h2,h3,h4⟩:=Ir e
  exact⟨j,h1,h,h2,h3,h4⟩
theorem bx {α:Type} {xs:List α} {j:Nat} {v:α} (h:xs[j]?=some v):GR xs (j:Int)=some v:=by
 have hj:j<xs.length:=(fK.mp h).1
 have e:S5 xs.length (j:Int)=some j:=by
  unfold S5
  rw[aM (by omega),aM (by omega)]; simp
 unfold GR; rw[e]; exact h
def T3 (b:Expr):Prop:=∀o i,subscripted b false o i=operate [o,i] (getItem o i)
structure QQ (X:Cx) (r:R2):Prop where
 mk ::
 go :
 ∀(value slice:Expr) (pins:List (Addr×Obj)) (s:Shared) (σ:St) (H:Hp) (x y:V) (v u:Value) (Q:VK),Inv X pins σ H s->RelV x v->RelV y u->r x y H Q ->
  subscripted slice false v u=operate [v,u] (getItem v u)->wpAny (model X.prog X.w) X.A (subscriptTail value slice v u) (EP X pins σ Q) X.xe s
instance {X:Cx} {r:R2}:CoeFun (QQ X r) (fun _=>
 ∀(value slice:Expr) (pins:List (Addr×Obj)) (s:Shared) (σ:St) (H:Hp) (x y:V) (v u:Value) (Q:VK),Inv X pins σ H s->RelV x v->RelV y u->r x y H Q ->
  subscripted slice false v u=operate [v,u] (getItem v u)->wpAny (model X.prog X.w) X.A (subscriptTail value slice v u) (EP X pins σ Q) X.xe s):=⟨QQ.go⟩
def MtR (X:Cx) (id:String) (r:V->List V->Hp->VK->Prop):Prop:=
 ∀(pins:List (Addr×Obj)) (s:Shared) (σ:St) (H:Hp) (x:V) (xs:List V) (v:Value) (us:List Value) (Q:VK),Inv X pins σ H s->RelV x v->Vals xs us->r x xs H Q ->
  wpAny (model X.prog X.w) X.A (call (.builtin id) (v::us)) (EP X pins σ Q) X.xe s
section
variable {X:Cx} {a b:Expr} {ta tb:TE} {pos:Pos}
theorem QQ.or {r r':R2} (h:QQ X r) (h':QQ X r'):QQ X (fun x y H Q=>r x y H Q\/r' x y H Q):=by
 refine .mk ?_
 intro value slice pins s σ H x y v u Q I rx ry q hs
 rcases q with q | q
 ·exact h value slice pins s σ H x y v u Q I rx ry q hs
 ·exact h' value slice pins s σ H x y v u Q I rx ry q hs
theorem bz {r:R2} (hr:QQ X r) (ha:PE X a ta) (hb:PE X b tb) (hs:T3 b):PE X (.Subscript a b pos) (Uk r ta tb):=by
 refine .mk ?_
 intro pins s σ H Q I h
 exact Subscript_ (W5 ha hb I h fun v u s2 x y H2 I2 rx ry q=>hr a b pins s2 σ H2 x y v u Q I2 rx ry q (hs _ _))
def aaY (K:PySem.W.Frag):R2:=fun x y H Q=>∃p xs i v,x=.ref p/\y=.int i/\gW K H p xs/\GR xs i=some v/\Q v H
def aaX (K:PySem.W.Frag):R2:=fun x y H Q=>∃p xs i v,x=.ref p/\y=.int i/\cA K H p xs/\GR xs i=some v/\Q v H
theorem Ip:QQ X (aaY X.K):=by
 refine .mk ?_
 intro value slice pins s σ H x y v u Q I rx ry h hs
 obtain⟨p,xs,i,z,rfl,rfl,hq,he,q⟩:=h
 cases rx
 obtain⟨t,rfl⟩:=ry
 obtain⟨its,r,pl,hz⟩:=I.list hq
 obtain⟨j,h1,h2,h3,h4,h5⟩:=Bc he
 obtain⟨w,ew,Rj⟩:=r.get h2
 have hl:=r.length
 have hn:=vK
 have fin:EP X pins σ Q w s:=⟨z,H,I,Rj,q⟩
 by_cases h0:0<=i
 ·have hj:i.toNat=j:=by
   rw[seqIndex_of h0 h5] at h1
   exact Option.some.inj h1
  exact item_listR pl.isList h0 (by omega) (by rw[hj]; simpa using ew) fin hs
 ·have hj:(i+(its.toArray.size:Int)).toNat=j:=by
   rw[seqIndex_neg (by omega) h4] at h1
   rw[fJ,<- hl]
   exact Option.some.inj h1
  exact subscriptTail_builtinR (x:=w) pl.isList.typeIs slot_list_getitem.lookup
   (wpAny_getItem_list_neg (Q:=fun r s'=>r=w/\EP X pins σ Q r s') pl.isList (by omega) (by rw[fJ] <;> omega) (by omega) (by rw[hj]; simpa using ew) ⟨rfl,fin⟩) hs
theorem Ww:QQ X (aaX X.K):=by
 refine .mk ?_
 intro value slice pins s σ H x y v u Q I rx ry h hs
 obtain⟨p,xs,i,z,rfl,rfl,hq,he,q⟩:=h
 cases rx
 obtain⟨t,rfl⟩:=ry
 obtain⟨its,r,pl,hz⟩:=I.tuple hq
 obtain⟨j,h1,h2,h3,h4,h5⟩:=Bc he
 obtain⟨w,ew,Rj⟩:=r.get h2
 have hl:=r.length
 have hn:=vK
 have fin:EP X pins σ Q w s:=⟨z,H,I,Rj,q⟩
 exact subscriptTail_builtinR (x:=w) pl.typeIs slot_tuple_getitem.lookup
  (getItem_tuple (j:=j) (Q:=fun r s'=>r=w/\EP X pins σ Q r s') pl (by omega) (by omega) (by rw[fJ,<- hl]; exact h1) (by simpa using ew) ⟨rfl,fin⟩) hs
theorem Gf (its:List Value) (n j:Nat) (u:Value):Obj.mapSeq (·.setIfInBounds j u) { cls:=.type "list",data:=.seq its.toArray n }={ cls:=.type "list",data:=.seq (its.set j u).toArray n }:=by
 simp[Obj.mapSeq]
theorem Inv.lst {pins:List (Addr×Obj)} {σ:St} {H:Hp} {s:Shared} {p:Addr} {xs:List V} (I:Inv X pins σ H s) (h:H p=some (.lst xs)) :
  ∃(its:List Value) (n:Nat),Vals xs its/\s.heap.get? p=some { cls:=.type "list",data:=.seq its.toArray n }/\xs.length<=sizeLine:=by
 obtain⟨z,its,n,r,e⟩:=I.hok p _ h
 exact⟨its,n,r,e,z⟩
theorem Inv.Wo {pins:List (Addr×Obj)} {σ:St} {H:Hp} {s:Shared} {p:Addr} {xs ys:List V} {its its':List Value} {n n':Nat} {f:Obj->Obj} (I:Inv X pins σ H s) (h:H p=some (.lst xs))
  (ho:s.heap.get? p=some { cls:=.type "list",data:=.seq its.toArray n }) (hf:f { cls:=.type "list",data:=.seq its.toArray n }={ cls:=.type "list",data:=.seq its'.toArray n' }) (r:Vals ys its') (hz:ys.length<=sizeLine) (t:Nat) :
  Inv X pins σ (upd H p (.lst ys)) { s with heap:=s.heap.update p f,toks:=t }:=by
 have e:(s.heap.update p f).get? p=some { cls:=.type "list",data:=.seq its'.toArray n' }:=by
  rw[w6 f ho (by rw[hf] <;> rfl),hf]
 refine I.write (x:=p) (e:=p) (by rw[h]; trivial) (.inl rfl) (fun b u hb q=>(sW _ _ (Ne.symm hb)).trans q) ⟨_,e⟩ ?_
 exact⟨hz,its',n',r,e⟩
def YL:V->V->V->Hp->(Hp->Prop)->Prop:=fun o i v H Q=>∃p xs k j,o=.ref p/\i=.int k/\H p=some (.lst xs)/\S5 xs.length k=some j/\Q (upd H p (.lst (xs.set j v)))
theorem set_list:QH X YL:=by
 refine .mk ?_
 intro pins s σ H o i v ov iv u Q I ro ri rv h
 obtain⟨p,xs,k,j,rfl,rfl,hp,hj,q⟩:=h
 cases ro
 obtain⟨t,rfl⟩:=ri
 obtain⟨its,n,r,ho,hz⟩:=I.lst hp
 obtain⟨h1,h2,h3,h4⟩:=Ir hj
 have hl:=r.length
 have hn:=vK
 have I':Inv X pins σ (upd H p (.lst (xs.set j v))) { s with heap:=s.heap.update p (Obj.mapSeq (·.setIfInBounds j u)) }:=
  I.Wo hp ho (Gf its n j u) (r.set rv j) (by rw[List.length_set]; exact hz) s.toks
 by_cases h0:0<=k
 ·have hk:k.toNat=j:=by
   rw[seqIndex_of h0 h4] at h1
   exact Option.some.inj h1
  exact PySem.W.ki_setAt ho h0 (by omega) (by rw[fJ,<- hl]; exact h4) (by rw[hk]; exact⟨_,I',q⟩)
 ·have hk:(k+(its.toArray.size:Int)).toNat=j:=by
   rw[seqIndex_neg (by omega) h3] at h1
   rw[fJ,<- hl]
   exact Option.some.inj h1
  exact PySem.W.ki_setBack ho (by omega) (by rw[fJ,<- hl]; exact h3) (by omega) (by rw[hk]; exact⟨_,I',q⟩)
theorem zy (lo hi:Option Int) (n:Nat):(sliceBounds lo hi none n).1=((HT.eZ n 0 lo:Nat):Int)/\(sliceBounds lo hi none n).2.1=((HT.eZ n n hi:Nat):Int)/\(sliceBounds lo hi none n).2.2=1:=by
 refine⟨?_,?_,rfl⟩
 ·cases lo with
  | none=>simp[sliceBounds,HT.eZ]
  | some i=>
   simp only[sliceBounds,HT.eZ,Option.getD_none,show(1:Int)>0 by decide,if_true]
   by_cases h:i<0
   ·simp only[h,if_true] <;> omega
   ·simp only[h,if_false] <;> omega
 ·cases hi with
  | none=>simp[sliceBounds,HT.eZ]
  | some i=>
   simp only[sliceBounds,HT.eZ,Option.getD_none,show(1:Int)>0 by decide,if_true]
   by_cases h:i<0
   ·simp only[h,if_true] <;> omega
   ·simp only[h,if_false] <;> omega
theorem wU (its:List Value) (lo hi:Option Int):slicePick its.toArray lo hi none=((its.drop (HT.eZ its.length 0 lo)).take (HT.eZ its.length its.length hi-HT.eZ its.length 0 lo)).toArray:=by
 obtain⟨h1,h2,h3⟩:=zy lo hi its.toArray.size
 unfold slicePick
 rw[h1,h2,h3]
 simp only[sliceRange_one,pick_run,fJ] <;> rfl
def aaV (K:PySem.W.Frag):V->Option Int->Option Int->Hp->VK->Prop:=fun x lo hi H Q=>∃a xs,x=.ref a/\gW K H a xs/\∀p,H p=none->Q (.ref p) (upd H p (.lst (nq xs lo hi)))
theorem Rf:XD X (aaV X.K):=by
 refine .mk ?_
 intro pins s σ H x v vl vu lo hi sl Q I rx hs pl pu h
 obtain⟨a,xs,rfl,hx,q⟩:=h
 cases rx
 obtain⟨its,r,ht,hz⟩:=I.list hx
 have hlen:=r.length
 refine⟨"list",_,slot_list_getitem.lookup,ht.isList.typeIs,?_⟩
 refine wpAny_getItem_list_slice ht.isList hs pl pu .none (by simp) ?_ (by rw[fJ] <;> omega)
 rw[wU,<- hlen]
 refine⟨.ref s.heap.objs.size,_,I.laid (t':=s.toks) (o:=.lst (nq xs lo hi)) (fun b ob q=>gb _ q) (cW _) ?_,rfl,q _ (I.hok.fresh (cW _))⟩
 exact⟨nR (nj xs lo hi) hz,_,0,(r.drop (HT.eZ xs.length 0 lo)).take (HT.eZ xs.length xs.length hi-HT.eZ xs.length 0 lo),dX _ rfl⟩
theorem Ay:dI X (.builtin "len") (fun xs H Q=>∃p ys,xs=[.ref p]/\(gW X.K H p ys\/cA X.K H p ys)/\Q (.int ys.length) H):=by
 refine .mk ?_
 intro pins s σ H xs us Q I r h
 obtain⟨p,ys,rfl,hq,q⟩:=h
 obtain⟨u,rfl,rx⟩:=vals1 r
 cases rx
 have hn:=vK
 rcases hq with hq | hq
 ·obtain⟨its,r',pl,hz⟩:=I.list hq
  have hlen:=r'.length
  exact Calls.call_len_list pl.isList (by simp only[fJ] <;> omega) ⟨.int ys.length,H,I.tok _,⟨s.toks+1,by rw[fJ,hlen]⟩,q⟩
 ·obtain⟨its,r',pl,hz⟩:=I.tuple hq
  have hlen:=r'.length
  exact len_tuple pl (by simp only[fJ] <;> omega) ⟨.int ys.length,H,I.tok _,⟨s.toks+1,by rw[fJ,hlen]⟩,q⟩
theorem Ax:dI X (.type "list") (fun xs H Q=>∃p ys,xs=[.ref p]/\(gW X.K H p ys\/cA X.K H p ys)/\∀l,H l=none->Q (.ref l) (upd H l (.lst ys))):=by
 refine .mk ?_
 intro pins s σ H xs us Q I r h
 obtain⟨p,ys,rfl,hq,q⟩:=h
 obtain⟨u,rfl,rx⟩:=vals1 r
 cases rx
 have fin:∀(its:List Value),Vals ys its->ys.length<=sizeLine->∀(h':Heap) (c':Nat),(∀b o',s.heap.get? b=some o'->h'.get? b=some o') ->
   h'.get? s.heap.objs.size=some { cls:=.type "list",dict:=none,data:=.seq its.toArray c',slots:=#[] }->EP X pins σ Q (.ref s.heap.objs.size) { s with heap:=h' }:=fun its r' hz h' c' kp e=>
  ⟨.ref s.heap.objs.size,_,I.laid (t':=s.toks) kp (cW _) (show cL X.prog X.w _ h' _ (.lst ys) from⟨hz,its,c',r',e⟩),rfl,q _ (I.hok.fresh (cW _))⟩
 rcases hq with hq | hq
 ·obtain⟨its,r',pl,hz⟩:=I.list hq
  have hlen:=r'.length
  obtain⟨o,ho,hc,n,hd⟩:=pl.isList
  exact call_list_seq p (.inl rfl) ho hc hd (fun h' c' kp e=>fin its r' hz h' c' kp e) (by simp only[fJ] <;> omega)
 ·obtain⟨its,r',pl,hz⟩:=I.tuple hq
  have hlen:=r'.length
  obtain⟨o,ho,hc,n,hd⟩:=pl
  exact call_list_seq p (.inr rfl) ho hc hd (fun h' c' kp e=>fin its r' hz h' c' kp e) (by simp only[fJ] <;> omega)
theorem xG:dI X (.type "tuple") (fun xs H Q=>∃p ys,xs=[.ref p]/\((gW X.K H p ys/\∀l,H l=none->Q (.ref l) (upd H l (.tup ys)))\/(cA X.K H p ys/\Q (.ref p) H))):=by
 refine .mk ?_
 intro pins s σ H xs us Q I r h
 obtain⟨p,ys,rfl,h⟩:=h
 obtain⟨u,rfl,rx⟩:=vals1 r
 cases rx
 rcases h with⟨hq,q⟩ | ⟨hq,q⟩
 ·obtain⟨its,r',pl,hz⟩:=I.list hq
  have hlen:=r'.length
  refine call_tuple_list pl.isList (fun h' kp=>?_) (by simp only[fJ] <;> omega)
  have I1:Inv X pins σ H { s with heap:=h' }:=I.kept (t':=s.toks) kp
  have I2:Inv X pins σ (upd H h'.objs.size (.tup ys)) { s with heap:=h'.push { cls:=.type "tuple",data:=.seq its.toArray } }:=
   I1.laid (t':=s.toks) (fun b o e=>gb _ e) (cW _) (show cL X.prog X.w _ _ _ (.tup ys) from⟨hz,its,r',IsTup.new _ _⟩)
  exact⟨.ref h'.objs.size,_,I2,rfl,q _ (I1.hok.fresh (cW _))⟩
 ·obtain⟨its,r',pl,hz⟩:=I.tuple hq
  exact call_tuple_same pl ⟨.ref p,H,I,rfl,q⟩
def tyV (K:PySem.W.Frag) (T:String) (x:V) (H:Hp):Prop:=match x with
 | .str _=>T = "str"
 | .int _=>T = "int"
 | .ref p=>(T = "list" /\ ∃xs,gW K H p xs)\/(T = "tuple" /\ ∃o,K.lookup p=some o/\o.cls=.type "tuple" /\ o.dict=none) \/
   (T = "dict" /\ ((∃kvs,H p=some (.dK kvs))\/∃kvs,H p=some (.dT kvs)))\/(T = "set" /\ ∃S n,H p=some (.set S n))
 | _=>False
theorem Vs {pins:List (Addr×Obj)} {σ:St} {H:Hp} {s:Shared} {T:String} {x:V} {v:Value} (I:Inv X pins σ H s) (r:RelV x v) (ty:tyV X.K T x H) :
  s.TypeIs v T/\∀a,v=.ref a->∃ob,s.heap.get? a=some ob/\ob.dict=none:=by
 cases x with
 | str z=>
  obtain⟨t,rfl⟩:=r
  cases(show T = "str" from ty)
  exact⟨typeIs_str s z t,fun _ e=>nomatch e⟩
 | int i=>
  obtain⟨t,rfl⟩:=r
  cases(show T = "int" from ty)
  exact⟨typeIs_int s i t,fun _ e=>nomatch e⟩
 | ref p=>
  cases r
  rcases ty with⟨rfl,xs,hq⟩ | ⟨rfl,o,hk,hc,hd⟩ | ⟨rfl,hk⟩ | ⟨rfl,S,n,hk⟩
  ·obtain⟨its,_,pl,_⟩:=I.list hq
   refine⟨pl.isList.typeIs,fun a e=>?_⟩
   cases e
   obtain⟨o,n,e,c,hd,_⟩:=pl
   exact⟨o,e,hd⟩
  ·refine⟨⟨o,I.Ph p o hk,hc⟩,fun a e=>?_⟩
   cases e
   exact⟨o,I.Ph _ o hk,hd⟩
  ·have z:∃o,s.heap.get? p=some o/\o.ExactDict:=by
    rcases hk with⟨kvs,hk⟩ | ⟨kvs,hk⟩
    ·obtain⟨_,_,_,_,o,_,_,e,ex,_⟩:=I.hok p _ hk
     exact⟨o,e,ex⟩
    ·obtain⟨_,_,_,_,o,_,_,e,ex,_⟩:=I.hok p _ hk
     exact⟨o,e,ex⟩
   obtain⟨o,e,ex⟩:=z
   refine⟨⟨o,e,ex.1⟩,fun a e2=>?_⟩
   cases e2
   exact⟨o,e,ex.2.1⟩
  ·obtain⟨o,_,_,_,e,ex,_⟩:=I.hok p _ hk
   refine⟨⟨o,e,ex.1⟩,fun a e2=>?_⟩
   cases e2
   exact⟨o,e,ex.2.1⟩
 | _=>exact False.elim ty
def tBM (K:PySem.W.Frag) (T:String) (r:V->List V->Hp->VK->Prop) (to:TE) (t:TA):TE:=fun σ H Q=>to σ H fun x H1=>tyV K T x H1/\t σ H1 fun xs H2=>r x xs H2 Q
variable {o e:Expr} {es:List Expr} {to:TE} {t:TA} {name:Str} {apos cpos:Pos} {T id:String} {r:V->List V->Hp->VK->Prop}
theorem Y5 (pa:PlainAttrs T) (slot:Slot T name id) (hty:typeOf (.builtin id)=pure (.type "method_descriptor")) (hm:MtR X id r) (ho:PE X o to) (ha:PA X (e::es) t)
  (hbase:attributeBase o name X.env (eval o X.env)=eval o X.env:=by rfl)
  (hfew:((backTo cpos (starEach (e::es) X.env)).all (fun x=>!x.1)&&(backToKw cpos (keywordEach [] X.env)).all (fun x=>x.1.isSome)
   && decide ((e::es).length+([]:List Keyword).length+(if([]:List Keyword).isEmpty then 0 else 1)<30))=true:=by rfl)
  (hline:(apos.endLine==cpos.line)=true:=by rfl) (hs:starEach (e::es) X.env=(false,eval e X.env)::starEach es X.env:=by rfl) (hplain:(backTo cpos (starEach es X.env)).any (·.1)=false:=by rfl) :
  PE X (.Call (.Attribute o name apos) (e::es) [] cpos) (tBM X.K T r to t):=by
 refine .mk ?_
 intro pins s σ H Q I h
 refine wpAny_Call_method_late hbase hfew hline rfl (cB (ho pins s σ H _ I h) fun v s1 qx=>?_)
 obtain⟨x,H1,I1,r1,ty,q1⟩:=qx
 obtain⟨h1,h2⟩:=Vs I1 r1 ty
 refine⟨T,id,pa,slot,hty,h1,h2,?_⟩
 have hA:=ha cpos pins s1 σ H1 _ I1 q1
 rw[hs] at hA ⊢
 refine Calls.callWith_builtin (by show(false || (backTo cpos (starEach es X.env)).any (·.1))=false; rw[hplain] <;> rfl) (Calls.evalArgs_plain ?_)
 exact cB hA fun us s2 ⟨vs,H2,I2,r2,q2⟩=>hm pins s2 σ H2 x vs v us Q I2 r1 r2 q2
end
def MtM (X:Cx) (id:String) (r:V->List V->Hp->VK->Prop):Prop:=
 ∀(pins:List (Addr×Obj)) (s:Shared) (σ:St) (H:Hp) (x:V) (xs:List V) (v:Value) (us:List Value) (Q:VK),Inv X pins σ H s->RelV x v->Vals xs us->r x xs H Q ->
  wpAny (model X.prog X.w) X.A (call (.builtin id) (v::us)) (EP X pins σ Q) X.xe s
theorem Vals.un {x:V} {xs:List V} {us:List Value} (h:Vals (x::xs) us):∃u r,us=u::r/\RelV x u/\Vals xs r:=by
 cases h with
 | cons r t=>exact⟨_,_,rfl,r,t⟩
theorem Vals.no {us:List Value} (h:Vals [] us):us=[]:=by
 cases h
 rfl
theorem Vals.one {x:V} {us:List Value} (h:Vals [x] us):∃u,us=[u]/\RelV x u:=by
 obtain⟨u,r,rfl,h1,h⟩:=h.un
 cases h.no
 exact⟨u,rfl,h1⟩
theorem Vals.two {x y:V} {us:List Value} (h:Vals [x,y] us):∃u v,us=[u,v]/\RelV x u/\RelV y v:=by
 obtain⟨u,r,rfl,h1,h⟩:=h.un
 obtain⟨v,rfl,h2⟩:=h.one
 exact⟨u,v,rfl,h1,h2⟩
theorem Vals.reverse {xs:List V} {us:List Value} (h:Vals xs us):Vals xs.reverse us.reverse:=by
 induction h with
 | nil=>exact .nil
 | cons r t ih=>rw[List.reverse_cons,List.reverse_cons]; exact Vals.append ih (.cons r .nil)
section
variable {X:Cx} {pins:List (Addr×Obj)} {σ:St} {H:Hp} {s:Shared} {l b:Addr} {xs ys zs:List V}
theorem Inv.abh {its its':List Value} {n:Nat} {f:Array Value->Array Value} {t':Nat} (I:Inv X pins σ H s) (hH:H l=some (.lst xs))
  (e:s.heap.get? l=some { cls:=.type "list",data:=.seq its.toArray n }) (hf:f its.toArray=its'.toArray) (hv:Vals ys its') (hz:ys.length<=sizeLine) :
  Inv X pins σ (upd H l (.lst ys)) { s with heap:=s.heap.update l (Obj.mapSeq f),toks:=t' }:=by
 have q:=PySem.IsL.update e f
 rw[hf] at q
 refine I.write (x:=l) (e:=l) (by rw[hH]; exact trivial) (.inl rfl) (fun b' u hb hu=>(sW s.heap (Obj.mapSeq f) (Ne.symm hb)).trans hu) ⟨_,q⟩ ?_
 exact⟨hz,its',_,hv,q⟩
theorem Inv.Wr {its:List Value} {t':Nat} (I:Inv X pins σ H s) (hv:Vals ys its) (hz:ys.length<=sizeLine) :
  Inv X pins σ (upd H s.heap.objs.size (.lst ys)) { s with heap:=s.heap.push { cls:=.type "list",data:=.seq its.toArray },toks:=t' }:=
 I.laid (fun _ _ q=>gb _ q) (cW _) ⟨hz,its,0,hv,dX _ rfl⟩
theorem Inv.fresh (I:Inv X pins σ H s):H s.heap.objs.size=none:=I.hok.fresh (cW _)
theorem Inv.Wq (I:Inv X pins σ H s) (hH:H l=some (.lst xs)):xs.length<=sizeLine/\∃(its:List Value) (n:Nat),Vals xs its/\xs.length=its.length/\s.heap.get? l=some { cls:=.type "list",data:=.seq its.toArray n }:=by
 obtain⟨z,its,n,r,e⟩:=I.hok l _ hH
 exact⟨z,its,n,r,r.length,e⟩
end
section
variable {X:Cx}
def Rz:V->List V->Hp->VK->Prop:=fun x vs H Q=>∃l xs y,x=.ref l/\vs=[y]/\H l=some (.lst xs)/\xs.length<sizeLine/\Q .non (upd H l (.lst (xs++[y])))
theorem j0:MtM X "list.append" Rz:=by
 intro pins s σ H x vs v us Q I rx rv h
 obtain⟨l,xs,y,rfl,rfl,hH,hz,q⟩:=h
 cases rx
 obtain⟨u,rfl,ru⟩:=rv.one
 obtain⟨z,its,n,r,hl,e⟩:=I.Wq hH
 refine call_meets F.slot_list_append ⟨_,e,rfl⟩ F.entry_list_append (F.args_list_append_2 _ _) (PySem.list_append l its.toArray n u (by rw[fJ]; omega)) ⟨e,?_⟩
 refine⟨.non,_,I.abh (its':=its++[u]) hH e (by simp) (r.append (.cons ru .nil)) ?_,rfl,q⟩
 rw[gD,List.length_singleton]
 omega
def Nt:R2:=fun x y H Q=>∃l b xs zs,x=.ref l/\y=.ref b/\H l=some (.lst xs)/\H b=some (.lst zs)/\xs.length+zs.length<=sizeLine/\∀p,H p=none->Q (.ref p) (upd H p (.lst (xs++zs)))
theorem Om:oG X (binaryOp .Add) Nt:=by
 refine .mk ?_
 intro pins s σ H x y v u Q I rx ry h
 obtain⟨l,b,xs,zs,rfl,rfl,hH,hB,hz,q⟩:=h
 cases rx
 cases ry
 obtain⟨z,its,n,r,hl,e⟩:=I.Wq hH
 obtain⟨z2,its2,n2,r2,hl2,e2⟩:=I.Wq hB
 refine PySem.P.add_list e e2 ?_ (by rw[fJ,fJ]; omega)
 have ea:its.toArray++its2.toArray=(its++its2).toArray:=by simp
 rw[ea]
 exact⟨.ref _,_,I.Wr (t':=s.toks) (r.append r2) (by rw[gD]; omega),rfl,q _ I.fresh⟩
end
section
variable {prog:Program} {w:World} {A:Around} {E:Value->Shared->Prop} {s:Shared}
end
section
variable {X:Cx}
end
end L2
namespace Att
open PySem PySem.W PySem.Calls PyProof.Rows
theorem tu {P:Params} {h:Heap}:∀(ns:List Int) (vs:List Value),WellAll P h vs (ns.map WData.int)->IntsAre vs ns:=by
 intro ns
 induction ns with
 | nil=>
  intro vs w
  rw[yj] at w
  cases w
  exact .nil
 | cons n ns ih=>
  intro vs w
  rw[kW] at w
  cases w with
  | cons a b=>
   cases a
   exact .cons _ _ (ih _ b)
theorem JP {l:OpenLaw} {n:Nat} (hn:l.most=some n) {P:Params} {h:Heap} {args:List WData} {vals:List Value}
  (hpre:l.row.toRowW.claim.pre args=true) (hwl:WellAll P h vals args) :
  ∃a vs ns,vals=[Value.ref a]/\args=[WData.list (ns.map WData.int)]/\h.get? a=some { cls:=.type "list",data:=.seq vs.toArray }/\IntsAre vs ns/\ns.length<=n:=by
 have hsh:WShape.hasAll [] args [.list .int]=true:=(pre_splitW hpre).1
 have hc:l.pre.holds [] { args:=args }=true:=(pre_splitW hpre).2
 obtain⟨d,r,rfl,h1,h2⟩:=hasAllW_cons hsh
 obtain rfl:=hasAllW_nil h2
 obtain⟨xs,rfl,h3⟩:=hasW_list h1
 obtain⟨ns,rfl⟩:=items_int h3
 have hlen:ns.length<=n:=by
  unfold OpenLaw.pre at hc
  have h4:(WTm.not (.lt (.lit (.int (n:Int))) (.len (.arg 0)))).holds [] { args:=[.list (ns.map .int)] }=true:=by
   have h4:=(holds_andW hc).1
   rw[hn] at h4
   exact h4
  have h5:=condW_of h4 (w_not (w_lt w_lit (w_len_list (w_arg rfl))))
  rw[bR] at h5
  refine Nat.le_of_not_lt fun q=>?_
  have q':(n:Int)<((ns.length:Nat):Int):=by omega
  first
   | (rw[iC q'] at h5; exact absurd h5 (by decide))
   | (simp at h5; omega)
 cases hwl with
 | cons w1 w2=>
  cases w2
  cases w1 with
  | list ho hall=>exact⟨_,_,ns,rfl,rfl,ho,tu ns _ hall,hlen⟩
theorem J8 (l:OpenLaw) (args:List WData):l.row.toRowW.claim.post args (.bool true) args=true:=
 postW_of (r:=l.row.toRowW) (X:=(true==true))
  (show WShape.has [] (.bool true) .bool=true by first | rfl | decide | simp[WShape.has,WShape.arms,WShape.armsAll])
  (show(WTm.eq .res (.lit (.bool true))).value [] { args:=args,res:=some (.bool true),after:=args }=some (.bool (true==true)) from w_eq_bool (w_res rfl) w_lit) rfl
theorem Ej {l:OpenLaw} {n:Nat} {q:Program} {loose:List Str} {XP:(Str->Option Value)->Heap->Prop} {YP:World->Heap->Prop} {d:DefRec}
  (hn:l.most=some n) (hdf:d.params.defaults=[])
  (call:∀(w:World) (s₀ s₁:Shared) (mg mb:Str->Option Value) (fa:Addr) (o:Obj) (pm cd doc:Value) (a:Addr) (vs:List Value) (ns:List Int),
   Ground q loose [] XP w s₀ mg mb s₁.heap->YP w s₁.heap ->
   s₁.heap.get? fa=some o->o.data=.func (docDef d.name d.params d.body d.scope pm cd doc)->s₁.heap.CodeRec cd d.name->mg d.name=some (.ref fa) ->
   s₁.heap.get? a=some { cls:=.type "list",data:=.seq vs.toArray }->IntsAre vs ns->ns.length<=n->s₁.gens = #[] ->
   codeAny (model l.prog w) callerA (.call (.ref fa) ⟨[.ref a],[]⟩) (fun r s'=>r=.ok (.ret (.bool true))/\OldK s₁.heap s'.heap/\s'.os=s₁.os/\AllBare s'.gens) s₁) :
  WalkO q loose XP YP l.row.toRowW d [] (fun f vs=>PySem.call f vs):=by
 intro w s₀ s₁ mg mb G Y fa o pm cd doc dV kV ho hd hcd hD hmg hg args vals as hpre hlay hrd hwl hlo
 obtain rfl:dV=.none:=Dflts.none hD hdf
 obtain rfl:kV=.none:=Dflts.noKw hD
 obtain⟨a,vs,ns,rfl,rfl,hobj,hints,hlen⟩:=JP hn hpre hwl
 refine enter_call (codeAny_mono (call w s₀ s₁ mg mb fa o pm cd doc a vs ns G Y ho (fd_plain hd) hcd hmg hobj hints hlen hg) fun r s' hq=>?_)
 obtain⟨rfl,h2,h3,h4⟩:=hq
 exact⟨.inl ⟨.bool true,.bool true,[],rfl,fun _=>rfl,.bool true,J8 l _,fun _=>⟨List.Pairwise.nil,fun _ hm=>(nomatch hm)⟩⟩,h2,h3,h4⟩
section
variable {prog:Program} {w:World} {A:Around} {E:Value->Shared->Prop} {s:Shared} {K:Frag}
def ledger (h:Heap) (L d:Addr):List (Addr×Obj):=(List.range h.objs.size).filterMap fun a=>if a=L\/a=d then none else(h.get? a).map fun o=>(a,o)
end
end Att
namespace L2
open PySem PySem.Spec PyProof.Rows
theorem xR:∀{vs:List Value} {ns:List Int},IntsAre vs ns->Vals (ns.map V.int) vs
 | _,_,.nil=>.nil
 | _,_,.cons n t h=>.cons ⟨t,rfl⟩ (xR h)
def Only (H:Hp):Prop:=∀b,H b=none\/∃o xs,H b=some (.Ja o (.lst xs))
theorem Pg {P:Program} {w:World} {K:PySem.W.Frag} {mg mb:Str->Option Value} {CX:Jw} {k:Nat} {fa a:Addr} {fd:FuncData} {x:Str} {sp:Sp} {s₁:Shared} {vs:List Value} {ns:List Int}
  (KX:K.In s₁.heap) (hns:s₁.heap.Ns mainGlobals mg) (hb:s₁.heap.Ns builtinsNs mb) (hbb:∀x:Str,x ≠ "__name__" -> mb x=bootBuiltins x) (hlim:s₁.heap.NoLimit) (hg:s₁.gens = #[])
  (ha:s₁.heap.get? a=some { cls:=.type "list",data:=.seq vs.toArray }) (hi:IntsAre vs ns) (hl:ns.length<=sizeLine) (hr:gM k callerA)
  (F:∀base:Heap,K.In base->base.Ns mainGlobals mg->bM P w K mg base CX k fa fd [x] sp) (hbind:∀(s:Shared) (u:Value),BindsTo s fd ⟨[u],[]⟩ [(x,u)])
  (hsp:∀H:Hp,Only H->gW K H a (ns.map V.int)->sp [.ref a] H (fun v _=>v=.bl true) fun _ _ _=>False)
  (hCX:∀H e s',CX [] H s₁ (fun _ _ _=>False) e s'->False) :
  codeAny (model P w) callerA (.call (.ref fa) ⟨[.ref a],[]⟩) (fun r s'=>r=.ok (.ret (.bool true))/\OldK s₁.heap s'.heap/\s'.os=s₁.os/\AllBare s'.gens) s₁:=by
 have rv:=xR hi
 have lenV:=hi.length
 have core:∀H:Hp,Only H->gW K H a (ns.map V.int)->lK P w H s₁.heap->(∀b,H b≠none->b=a)->(H a≠none->K.lookup a=none) ->
   codeAny (model P w) callerA (.call (.ref fa) ⟨[.ref a],[]⟩) (fun r s'=>r=.ok (.ret (.bool true))/\OldK s₁.heap s'.heap/\s'.os=s₁.os/\AllBare s'.gens) s₁:=by
  intro H hO hS hok hA hK
  have Jm:∀{b:Addr} {o:Obj},s₁.heap.get? b=some o->H b=none->(Aj s₁.heap H).get? b=some o:=fun e n=>PB e n
  have Za:∀{b:Addr} {o:Obj} {es:Array DictEntry} {ep:Nat},s₁.heap.get? b=some o->o.data=.dict es ep->H b=none:=fun {b o es ep} e d=>by
   cases q:H b with
   | none=>rfl
   | some u=>
    have e':b=a:=hA b (by rw[q]; simp)
    subst e'
    rw[ha] at e; cases e
    have d':Data.seq vs.toArray _=Data.dict es ep:=d
    cases d'
  have nsK:∀{b:Addr} {m:Str->Option Value},s₁.heap.Ns b m->(Aj s₁.heap H).Ns b m:=fun {b m} ⟨o,es,ep,e,d,r⟩=>⟨o,es,ep,Jm e (Za e d),d,r⟩
  have hKb:K.In (Aj s₁.heap H):=fun b o e=>Jm (KX b o e) (by
   cases q:H b with
   | none=>rfl
   | some u=>
    have e':b=a:=hA b (by rw[q]; simp)
    subst e'
    rw[hK (by rw[q]; simp)] at e; cases e)
  have hM:Mod K mg (Aj s₁.heap H):=⟨hKb,nsK hns,⟨mb,nsK hb,hbb⟩,let ⟨mc,h1,h2⟩:=hlim; ⟨mc,nsK h1,h2⟩⟩
  have e0:T6 P w K mg (Aj s₁.heap H) callerA [] s₁ H:=⟨rfl,hM,fun b o e=>R3 e,Nat.le_of_eq (K3 _ _),trivial,fun b hb=>absurd (show b∈([]:List Addr) from hb) (by simp),hok,.of_eq hg⟩
  refine codeAny_mono ((F _ hKb (nsK hns)).run callerA [] s₁ H ⟨[.ref a],[]⟩ [.ref a] [.ref a] _ _ hr e0 (hbind s₁ (.ref a)) (.cons rfl .nil) (hsp H hO hS)) fun r s' h=>?_
  cases r with
  | error e=>exact(hCX H e s' h).elim
  | ok fl=>
   cases fl with
   | next=>exact False.elim h
   | brk=>exact False.elim h
   | cont=>exact False.elim h
   | ret u=>
    obtain⟨v,H',os,bare,un,hok',r',q⟩:=h
    have q':v=.bl true:=q
    subst q'
    obtain rfl:u=Value.bool true:=r'
    refine⟨rfl,OldK.of_keep fun b o e=>?_,os,bare⟩
    cases q:H b with
    | none=>exact un.keep b o e q (by intro z; exact absurd (show b∈([]:List Addr) from z) (by simp)) (by simp)
    | some u=>
     rcases hO b with z | ⟨ob,xs,z⟩
     ·rw[q] at z; cases z
     ·have z2:=un.xu b ob _ z
      obtain⟨e1,_⟩:=hok b _ z
      obtain⟨e2,_⟩:=hok' b _ z2
      rw[e] at e1; cases e1
      exact e2
 cases hk:K.lookup a with
 | some o=>
  have e:=KX a o hk
  rw[ha] at e
  cases e
  refine core (fun _=>none) (fun _=>.inl rfl) (.inr ⟨_,vs.toArray,_,hk,rfl,rfl,rfl,by rw[fJ,lenV]; exact hl,by simpa using rv⟩) (fun b u z=>by have z':(none:Option HO)=some u:=z; cases z') (fun b z=>absurd rfl z) fun z=>absurd rfl z
 | none=>
  refine core (fun b=>if b=a then some (.Ja { cls:=.type "list",data:=.seq vs.toArray } (.lst (ns.map V.int))) else none) (fun b=>?_) (.inl (.inr ⟨{ cls:=.type "list",data:=.seq vs.toArray },aM rfl⟩)) (fun b u z=>?_) (fun b z=>?_) fun _=>hk
  ·by_cases hb:b=a
   ·exact .inr ⟨_,_,aM hb⟩
   ·exact .inl (aK hb)
  ·by_cases hb:b=a
   ·have z':=(aM hb).symm.trans z
    cases z'
    subst hb
    exact⟨ha,by rw[bR]; exact hl,vs,_,rv,ha⟩
   ·have z':=(aK hb).symm.trans z
    cases z'
  ·by_cases hb:b=a
   ·exact hb
   ·exact absurd (aK hb) z
abbrev KOf {K:PySem.W.Frag} {h:Heap} (_:K.In h):PySem.W.Frag:=K
theorem Q3 {l:PySem.W.OpenLaw} {n k:Nat} {q:Program} {loose:List Str} {XP:(Str->Option Value)->Heap->Prop} {YP:World->Heap->Prop} {d:DefRec} {K:Params->PySem.W.Frag} {CX:World->Jw} {sp:World->Sp} {x:Str}
  (hn:l.most=some n) (hn2:n<=sizeLine) (hdf:d.params.defaults=[]) (hr:gM k callerA)
  (hY:∀(w:World) (h:Heap),YP w h->(K w.params).In h)
  (F:∀(w:World) (mg:Str->Option Value) (fa:Addr) (h:Heap),(K w.params).In h->h.Ns mainGlobals mg->mg d.name=some (.ref fa) ->
   ∃fd:FuncData,(∀(s:Shared) (u:Value),BindsTo s fd ⟨[u],[]⟩ [(x,u)]) /\
    ∀base:Heap,(K w.params).In base->base.Ns mainGlobals mg->bM l.prog w (K w.params) mg base (CX w) k fa fd [x] (sp w))
  (hsp:∀(w:World) (H:Hp) (a:Addr) (ns:List Int),ns.length<=n->Only H->gW (K w.params) H a (ns.map V.int)->sp w [.ref a] H (fun v _=>v=.bl true) fun _ _ _=>False)
  (hCX:∀(w:World) (H:Hp) (s:Shared) (e:Value) (s':Shared),CX w [] H s (fun _ _ _=>False) e s'->False) :
  PySem.W.WalkO q loose XP YP l.row.toRowW d [] (fun f vs=>PySem.call f vs):=by
 refine Att.Ej hn hdf fun w s₀ s₁ mg mb fa o pm cd doc a vs ns G Y ho hd hcd hmg hobj hints hlen hg=>?_
 have KX:=hY w _ Y
 obtain⟨fd,hb,hF⟩:=F w mg fa _ KX G.T.g hmg
 exact Pg KX G.T.g G.T.b G.T.builtins G.T.nolimit hg hobj hints (nR hlen hn2) hr hF hb (fun H hO hS=>hsp w H a ns hlen hO hS) fun H e s'=>hCX w H s₁ e s'
end L2
namespace L2
open PySem PySem.Spec PyProof.Rows
def dH (s:Stmt):Arguments:=match s with
 | .FunctionDef _ a _ _ _ _ _ _ _ _=>a
 | _=>{ posonlyargs:=[],args:=[],vararg:=none,kwonlyargs:=[],kw_defaults:=[],kwarg:=none,defaults:=[] }
def cJ (s:Stmt):List Stmt:=match s with
 | .FunctionDef _ _ b _ _ _ _ _ _ _=>b
 | _=>[]
def aH (s:Stmt):Scope:=match s with
 | .FunctionDef _ _ _ _ _ _ sc _ _ _=>sc
 | _=>{ kind:=.function,names:=[],isGenerator:=false,isCoroutine:=false }
abbrev iH:Jw:=fun _ _ _ _ _ _=>False
abbrev E0:XK:=fun _ _ _=>False
theorem UW {X:Cx}:Passes iH X E0:=fun _ _ _ _ _ _ _ h=>h.elim
structure jk (K:PySem.W.Frag) (x qual:Str) (st:Stmt) (f:Addr) (fd:FuncData):Prop where
 ex:∃(oc:Value) (od:Option Addr) (kV doc pm:Value) (an:Option Addr) (cdv ct:Value) (osl:Array (Option Value)),
  fd=PySem.W.fnOf x qual (dH st) (cJ st) (aH st) .none kV doc pm an cdv ct/\K.lookup f=some ⟨oc,od,.func fd,osl⟩/\PySem.W.codeIn K cdv qual=true
 kp:PySem.W.keepIn K (.ref f)=true
section
variable {P:Program} {w:World} {K:PySem.W.Frag} {mg:Str->Option Value} {base:Heap}
theorem jk.ok {x qual:Str} {st:Stmt} {f:Addr} {fd:FuncData} {N ps:List Str} {k:Nat} {sp:Sp} (F:jk K x qual st f fd) (S:aR N ps (aH st)) (len:∀vs H Q E,sp vs H Q E->vs.length=ps.length)
  (hbody:∀(cdv:Value) (A:Around) (outer:List Env) (s:Shared) (H:Hp) (vs:List V) (Q:VK) (E:XK),gM k (A.deeper (envOfC qual (aH st) s.heap.objs.size f cdv))->sp vs H Q E ->
   ∃t,xK (fO iH P w K mg base N qual (aH st) f cdv A outer s H E).Xq (cJ st) t/\t { nx:=fun _ H'=>Q .non H',rt:=Q } (start N vs) H):bM P w K mg base iH (k+1) f fd ps sp:=by
 obtain⟨oc,od,kV,doc,pm,an,cdv,ct,osl,rfl,lk,hcd⟩:=F.ex
 refine Vb lk hcd S len fun A outer s H vs Q E hr hsp=>?_
 obtain⟨t,h,q⟩:=hbody cdv A outer s H vs Q E hr hsp
 exact⟨t,h.Xq,q⟩
theorem jk.binds {x qual:Str} {st:Stmt} {f:Addr} {fd:FuncData} {ps:List Str} (F:jk K x qual st f fd)
  (h:∀(kV doc pm:Value) (an:Option Addr) (cdv ct:Value) (us:List Value),us.length=ps.length->bindArgs (PySem.W.fnOf x qual (dH st) (cJ st) (aH st) .none kV doc pm an cdv ct) ⟨us,[]⟩=pure (ps.zip us)):Binds K fd ps []:=by
 obtain⟨oc,od,kV,doc,pm,an,cdv,ct,osl,rfl,lk,hcd⟩:=F.ex
 exact .all (h kV doc pm an cdv ct)
theorem Qf {x qual:Str} {st:Stmt} {f:Addr} {oc:Value} {od an:Option Addr} {osl:Array (Option Value)} {kV doc pm cdv ct:Value} (l:K.lookup f=some ⟨oc,od,.func (PySem.W.fnOf x qual (dH st) (cJ st) (aH st) .none kV doc pm an cdv ct),osl⟩)
  (c:PySem.W.codeIn K cdv qual=true) (k:PySem.W.keepIn K (.ref f)=true):jk K x qual st f (PySem.W.fnOf x qual (dH st) (cJ st) (aH st) .none kV doc pm an cdv ct):=⟨⟨oc,od,kV,doc,pm,an,cdv,ct,osl,rfl,l,c⟩,k⟩
end
theorem bj {n:Nat} (h:n<=1000):n<sizeLine:=Nat.lt_of_le_of_lt h (by decide)
section
variable {X:Cx}
theorem pv (i:Nat) {x:Str} {pos:Pos} (hN:X.N[i]?=some x:=by rfl) (hv:Vis X.env.scope x:=by first | exact Or.inl rfl | exact Or.inr (Or.inl rfl) | exact Or.inr (Or.inr rfl)) (hd:(x==("__debug__" : Str))=false:=by decide)
  (hcd:(x==("__classdict__" : Str))=false:=by decide):PE X (.Name x pos) (ue i):=V6 hN hv hd hcd
end
def aC (H H':Hp):Prop:=∀b o,H b=some o->H' b=some o
theorem aC.refl (H:Hp):aC H H:=fun _ _ h=>h
theorem aC.trans {H H1 H2:Hp} (a:aC H H1) (b:aC H1 H2):aC H H2:=fun c o h=>b c o (a c o h)
theorem aC.free {H H':Hp} (e:aC H H') {l:Addr} (h:H' l=Option.none):H l=Option.none:=by
 cases q:H l with
 | none=>rfl
 | some o=>
  rw[e l o q] at h
  cases h
section
variable {κ:Type} [DecidableEq κ]
def gf (kvs:List (κ×V)) (k:κ):Option V:=(kvs.find? fun kv=>decide (kv.1=k)).map (·.2)
def putK (kvs:List (κ×V)) (k:κ) (v:V):List (κ×V):=
 if(kvs.any fun kv=>decide (kv.1=k))=true then kvs.map (fun kv=>if kv.1=k then(kv.1,v) else kv) else kvs++[(k,v)]
theorem eN {p:κ×V} {r:List (κ×V)} {k:κ} (e:p.1=k):gf (p::r) k=some p.2:=by simp[gf,List.find?_cons,e]
theorem eO {p:κ×V} {r:List (κ×V)} {k:κ} (e:¬p.1=k):gf (p::r) k=gf r k:=by simp[gf,List.find?_cons,e]
theorem pO (k:κ):∀kvs:List (κ×V),(kvs.any fun kv=>decide (kv.1=k))=(gf kvs k).isSome
 | []=>rfl
 | p::r=>by
  rw[List.any_cons]
  by_cases e:p.1=k
  ·simp only[eN e,iC e,Bool.true_or,Option.isSome_some]
  ·rw[eO e,fH e,Bool.false_or]; exact pO k r
theorem Bq (k j:κ) (y:V):∀kvs:List (κ×V),gf (kvs.map fun kv=>if kv.1=k then(kv.1,y) else kv) j=(gf kvs j).map fun x=>if j=k then y else x
 | []=>rfl
 | p::r=>by
  have ih:=Bq k j y r
  rw[kW]
  by_cases h:p.1=k
  ·rw[aM h]
   by_cases e:p.1=j
   ·rw[eN (p:=(p.1,y)) e,eN e,yt,aM (e.symm.trans h)]
   ·rw[eO (p:=(p.1,y)) e,eO e,ih]
  ·rw[aK h]
   by_cases e:p.1=j
   ·rw[eN (p:=p) e,eN e,yt,aK (fun z=>h (e.trans z))]
   ·rw[eO (p:=p) e,eO e,ih]
theorem xT (k j:κ) (y:V):∀kvs:List (κ×V),gf kvs k=none->gf (kvs++[(k,y)]) j=if j=k then some y else gf kvs j
 | [],_=>by
  by_cases e:k=j
  ·rw[aM e.symm]; exact eN (p:=(k,y)) e
  ·rw[aK (fun z=>e z.symm)]; exact eO (p:=(k,y)) e
 | p::r,hn=>by
  rw[yz]
  have hk:¬p.1=k:=fun z=>by rw[eN z] at hn; cases hn
  rw[eO hk] at hn
  have ih:=xT k j y r hn
  by_cases e:p.1=j
  ·rw[eN e,eN e,aK (fun z=>hk (e.trans z))]
  ·rw[eO e,eO e,ih]
theorem Mi (kvs:List (κ×V)) (k j:κ) (y:V):gf (putK kvs k y) j=if j=k then some y else gf kvs j:=by
 unfold putK
 by_cases a:(kvs.any fun kv=>decide (kv.1=k))=true
 ·rw[aM a,Bq]
  rw[pO] at a
  by_cases e:j=k
  ·obtain⟨x,hx⟩:=Cq.mp a
   rw[aM e,e,hx,yt,aM rfl]
  ·rw[aK e]
   cases gf kvs j with
   | none=>rfl
   | some x=>rw[yt,aK e]
 ·rw[aK a]
  refine xT k j y kvs ?_
  rw[pO] at a
  cases q:gf kvs k with
  | none=>rfl
  | some x=>rw[q] at a; exact(a rfl).elim
theorem QG.rF {o:Option V} {u:Option Value} (r:QG o u):o.isSome=u.isSome:=by
 cases o with
 | none=>cases u with
  | none=>rfl
  | some _=>exact(show False from r).elim
 | some _=>cases u with
  | none=>exact(show False from r).elim
  | some _=>rfl
end
section
variable {P:Program} {w:World} {H:Hp} {h:Heap} {a:Addr}
end
section
variable {X:Cx} {pins:List (Addr×Obj)} {σ:St} {H:Hp} {s:Shared} {a:Addr} {y v:V} {u r:Value} {o:Option V} {A:Around} {E:Value->Shared->Prop}
theorem Inv.big (I:Inv X pins σ H s):sysModules<s.heap.objs.size:=by
 have h:mainGlobals<s.heap.objs.size:=(I.mod.glob.keeps I.bk).lt
 exact Cy (by decide) h
end
section
variable {X:Cx} {pins:List (Addr×Obj)} {σ:St} {H:Hp} {s:Shared} {a:Addr} {kvs:List (Key×V)} {k:Key} {u:Value} {A:Around} {E:Value->Shared->Prop}
end
section
variable {X:Cx} {o i e value:Expr} {pos pos' tpos:Pos} {td ty tv:TE}
end
section
variable {X:Cx} {pos:Pos}
end
structure M1 (X:Cx) (o:Expr) (m:Str) (apos:Pos) (e:Expr) (cpos:Pos):Prop where
 base:attributeBase o m X.env (eval o X.env)=eval o X.env
 few:((backTo cpos (starEach [e] X.env)).all (fun x=>!x.1)&&(backToKw cpos (keywordEach [] X.env)).all (fun x=>x.1.isSome)
  && decide (([e]:List Expr).length+([]:List Keyword).length+(if([]:List Keyword).isEmpty then 0 else 1)<30))=true
 line:(apos.endLine==cpos.line)=true
 trees:backTo cpos (starEach [e] X.env)=[(false,eval e X.env)]
structure M2 (X:Cx) (o:Expr) (m:Str) (apos:Pos) (e f:Expr) (cpos:Pos):Prop where
 base:attributeBase o m X.env (eval o X.env)=eval o X.env
 few:((backTo cpos (starEach [e,f] X.env)).all (fun x=>!x.1)&&(backToKw cpos (keywordEach [] X.env)).all (fun x=>x.1.isSome)
  && decide (([e,f]:List Expr).length+([]:List Keyword).length+(if([]:List Keyword).isEmpty then 0 else 1)<30))=true
 line:(apos.endLine==cpos.line)=true
 trees:backTo cpos (starEach [e,f] X.env)=[(false,eval e X.env),(false,eval f X.env)]
section
variable {X:Cx} {pins:List (Addr×Obj)} {σ:St} {H:Hp} {s:Shared} {a:Addr} {y d:V} {u r:Value} {o:Option V} {A:Around} {E:Value->Shared->Prop}
end
section
variable {X:Cx} {o e f:Expr} {apos cpos:Pos} {td ty tx:TE}
end
section
variable {X:Cx} {pins:List (Addr×Obj)} {σ:St} {H:Hp} {s:Shared} {a:Addr} {kvs:List (Key×V)} {A:Around} {E:Value->Shared->Prop}
end
section
variable {X:Cx} {pins:List (Addr×Obj)} {σ:St} {H:Hp} {s:Shared} {a:Addr} {y:V} {u:Value} {A:Around} {E:Value->Shared->Prop}
end
end L2
set_option maxHeartbeats 4000000
namespace L2
open PySem PySem.Spec PyProof.Rows
def jh (env:Env) (cs:List (Str×Addr)) (y:Str×NameKind):List (Str×Addr):=
 if y.2==.free then(match env.cells.lookup y.1 with | some c=>(y.1,c)::cs | none=>cs) else cs
def pF (sc:Scope) (env:Env):List (Str×Addr):=sc.names.foldl (jh env) []
theorem D_ {env:Env}:∀(ns:List (Str×NameKind)) (acc:List (Str×Addr)),(∀y c,acc.lookup y=some c->env.cells.lookup y=some c)->∀y c,(ns.foldl (jh env) acc).lookup y=some c->env.cells.lookup y=some c
 | [],acc,h,y,c,e=>h y c e
 | n::ns,acc,h,y,c,e=>by
  refine D_ ns (jh env acc n) (fun z d q=>?_) y c e
  unfold jh at q
  split at q
  ·split at q
   ·rename_i c' hc'
    rw[qZ] at q
    split at q
    ·rename_i hz
     have hz':z=n.1:=by simpa using hz
     cases q
     rw[hz']; exact hc'
    ·exact h z d q
   ·exact h z d q
  ·exact h z d q
theorem gJ {sc:Scope} {env:Env} {y:Str} {c:Addr} (e:(pF sc env).lookup y=some c):env.cells.lookup y=some c:=
 D_ sc.names [] (fun _ _ q=>by simp at q) y c e
theorem Jk {env:Env} {y:Str} {c:Addr} (hc:env.cells.lookup y=some c):∀(ns:List (Str×NameKind)) (acc:List (Str×Addr)),acc.lookup y=some c->(ns.foldl (jh env) acc).lookup y=some c
 | [],acc,h=>h
 | n::ns,acc,h=>by
  refine Jk hc ns (jh env acc n) ?_
  unfold jh
  split
  ·split
   ·rename_i c' hc'
    rw[qZ]
    split
    ·rename_i hz
     have hz':y=n.1:=by simpa using hz
     rw[<- hz',hc] at hc'
     exact hc'.symm
    ·exact h
   ·exact h
  ·exact h
theorem Gx {env:Env} {y:Str} {c:Addr} (hc:env.cells.lookup y=some c):∀(ns:List (Str×NameKind)) (acc:List (Str×Addr)),(y,NameKind.free)∈ns->(ns.foldl (jh env) acc).lookup y=some c
 | [],_,h=>by simp at h
 | n::ns,acc,h=>by
  rcases b8.mp h with e | h
  ·subst e
   refine Jk hc ns _ ?_
   unfold jh
   simp[hc]
  ·exact Gx hc ns _ h
theorem sr {sc:Scope} {env:Env} {x:Str} {k':NameKind} (h:(relabel sc env).names.lookup x=some k'):∃k,(x,k)∈sc.names/\(k'=k\/(k=.free/\k'=.cell)):=by
 have m:=PySem.mem_of_lookup h
 unfold relabel at m
 obtain⟨⟨n,k⟩,hm,e⟩:=g_.mp m
 dsimp only at e
 split at e
 ·rename_i hc
  injection e with e1 e2
  subst e1
  refine⟨k,hm,.inr ⟨?_,e2.symm⟩⟩
  have:(k==NameKind.free)=true:=by
   cases hk:(k==NameKind.free) with
   | true=>rfl
   | false=>rw[hk] at hc; simp at hc
  exact beq_iff_eq.mp this
 ·injection e with e1 e2
  subst e1 e2
  exact⟨k,hm,.inl rfl⟩
theorem qb {env:Env} {x:Str} (hf:env.scope.kind=.function) (hk:env.kindOf x=some .cell):∀(ns:List (Str×NameKind)),ns.lookup x=some .free ->
  (ns.map fun(y:Str×NameKind)=>if(y.2==.free&&env.scope.kind==.function&&env.kindOf y.1==some .cell) then(y.1,NameKind.cell) else(y.1,y.2)).lookup x=some .cell
 | [],h=>by simp at h
 | (n,k)::r,h=>by
  have ih:=qb hf hk r
  rw[kW]
  cases hx:x==n with
  | true=>
   have e:x=n:=by simpa using hx
   subst e
   simp only[qZ,beq_self_eq_true] at h
   cases h
   dsimp only
   rw[aM (by simp[hf,hk])]
   simp[qZ]
  | false=>
   simp only[qZ,hx] at h
   dsimp only
   split
   ·simp only[qZ,hx]; exact ih h
   ·simp only[qZ,hx]; exact ih h
def pC (X:Cx) (N':List Str) (sc:Scope) (fp:List Addr) (s:Shared) (H:Hp):Cx where
 prog:=X.prog
 w:=X.w
 K:=X.K
 mg:=X.mg
 base:=X.base
 A:=X.A
 N:=N'
 s₀:=s
 H₀:=H
 env:=compEnvC sc (pF sc X.env) s.heap.objs.size X.env
 outer:=X.stack
 stack:=X.stack
 ex:=fp
 fn:=fun _=>false
 calm:=X.calm
 pn:=[]
 xe:=fun _ _=>False
structure tO (X:Cx) (N':List Str) (js:List Nat) (sc:Scope):Prop where
 kind:sc.kind=.function
 gF:∀y∈sc.names,y.2≠.cell
 names:∀y∈sc.names,y.2=.local->sc.names.lookup y.1=some .local
 clos:closureFor sc X.env=pure (pF sc X.env)
 all:(sc.names.all fun y=>y.2 != .free || (X.env.cells.lookup y.1).isSome)=true
 len:N'.length=js.length+1
 cap:∀(i j:Nat),js[i]?=some j->N'[i+1]?=X.N[j]?
 Qt:∀y∈N'.tail,X.env.kindOf y=some .cell/\sc.names.lookup y=some .free
def bO (js:List Nat) (σ:St):St:=js.map fun j=>(σ[j]?).join
def gq (js:List Nat) (wi:TI) (te:TE):TE:=fun σ H Q=>wi σ H fun J H1=>∀acc,H1 acc=none->∃W:Nat->Nat->List V->Hp->Prop,(∃m,W 0 m [] (upd H1 acc (.lst [])))/\∀i m ys H2,W i m ys H2 ->
 (J.stop i H2/\Q (.ref acc) H2)\/(J.go i H2/\∀x H3,J.xO i H2 x H3->te (some x::bO js σ) H3 fun y H4=>H4 acc=some (.lst ys)/\ys.length<sizeLine/\∃m',m'<m/\W (i+1) m' (ys++[y]) (upd H4 acc (.lst (ys++[y]))))
def ph:Key->PyData
 | .inl i=>.int i
 | .inr x=>.str x
mutual
def At (H:Hp):PyData->V->Prop
 | .none,v=>v=.non
 | .bool b,v=>v=.bl b
 | .int i,v=>v=.int i
 | .str x,v=>v=.str x
 | .tuple ds,v=>∃a xs,v=.ref a/\H a=some (.tup xs)/\aj H ds xs
 | .list ds,v=>∃a xs,v=.ref a/\H a=some (.lst xs)/\aj H ds xs
 | .dict kvs,v=>∃a es,v=.ref a/\H a=some (.dK es)/\Bl H kvs es
def aj (H:Hp):List PyData->List V->Prop
 | [],xs=>xs=[]
 | d::ds,xs=>∃x r,xs=x::r/\At H d x/\aj H ds r
def Bl (H:Hp):List (PyData×PyData)->List (Key×V)->Prop
 | [],es=>es=[]
 | (k,d)::r,es=>∃q v t,es=(q,v)::t/\k=ph q/\At H d v/\Bl H r t
end
mutual
theorem At.mono {H H':Hp} (m:aC H H'):∀(d:PyData) (v:V),At H d v->At H' d v
 | .none,_,h=>by unfold At at h ⊢; exact h
 | .bool _,_,h=>by unfold At at h ⊢; exact h
 | .int _,_,h=>by unfold At at h ⊢; exact h
 | .str _,_,h=>by unfold At at h ⊢; exact h
 | .tuple ds,v,h=>by
  unfold At at h ⊢
  obtain⟨a,xs,e,h1,h2⟩:=h
  exact⟨a,xs,e,m _ _ h1,aj.mono m ds xs h2⟩
 | .list ds,v,h=>by
  unfold At at h ⊢
  obtain⟨a,xs,e,h1,h2⟩:=h
  exact⟨a,xs,e,m _ _ h1,aj.mono m ds xs h2⟩
 | .dict kvs,v,h=>by
  unfold At at h ⊢
  obtain⟨a,es,e,h1,h2⟩:=h
  exact⟨a,es,e,m _ _ h1,Bl.mono m kvs es h2⟩
theorem aj.mono {H H':Hp} (m:aC H H'):∀(ds:List PyData) (xs:List V),aj H ds xs->aj H' ds xs
 | [],_,h=>by unfold aj at h ⊢; exact h
 | d::ds,xs,h=>by
  unfold aj at h ⊢
  obtain⟨x,r,e,h1,h2⟩:=h
  exact⟨x,r,e,At.mono m d x h1,aj.mono m ds r h2⟩
theorem Bl.mono {H H':Hp} (m:aC H H'):∀(kvs:List (PyData×PyData)) (es:List (Key×V)),Bl H kvs es->Bl H' kvs es
 | [],_,h=>by unfold Bl at h ⊢; exact h
 | (k,d)::r,es,h=>by
  unfold Bl at h ⊢
  obtain⟨q,v,t,e,e',h1,h2⟩:=h
  exact⟨q,v,t,e,e',At.mono m d v h1,Bl.mono m r t h2⟩
end
theorem aj.length {H:Hp}:∀{ds:List PyData} {xs:List V},aj H ds xs->xs.length=ds.length
 | [],xs,h=>by unfold aj at h; rw[h]; rfl
 | d::ds,xs,h=>by
  unfold aj at h
  obtain⟨x,r,e,_,h2⟩:=h
  rw[e,nU,nU,aj.length h2]
theorem aj.get {H:Hp}:∀{ds:List PyData} {xs:List V} {i:Nat} {x:V},aj H ds xs->xs[i]?=some x->∃d,ds[i]?=some d/\At H d x
 | [],xs,i,x,h,e=>by unfold aj at h; rw[h] at e; simp at e
 | d::ds,xs,i,x,h,e=>by
  unfold aj at h
  obtain⟨y,r,e1,h1,h2⟩:=h
  subst e1
  cases i with
  | zero=>simp at e; subst e; exact⟨d,rfl,h1⟩
  | succ i=>
   obtain⟨d',q1,q2⟩:=aj.get (i:=i) (x:=x) h2 (by simpa using e)
   exact⟨d',by simpa using q1,q2⟩
theorem aj.getD {H:Hp}:∀{ds:List PyData} {xs:List V} {i:Nat} {d:PyData},aj H ds xs->ds[i]?=some d->∃x,xs[i]?=some x/\At H d x
 | [],xs,i,d,h,e=>by simp at e
 | d'::ds,xs,i,d,h,e=>by
  unfold aj at h
  obtain⟨y,r,e1,h1,h2⟩:=h
  subst e1
  cases i with
  | zero=>simp at e; subst e; exact⟨y,rfl,h1⟩
  | succ i=>
   obtain⟨x,q1,q2⟩:=aj.getD (i:=i) (d:=d) h2 (by simpa using e)
   exact⟨x,by simpa using q1,q2⟩
theorem aj.append {H:Hp}:∀{ds es:List PyData} {xs ys:List V},aj H ds xs->aj H es ys->aj H (ds++es) (xs++ys)
 | [],es,xs,ys,h,q=>by unfold aj at h; subst h; exact q
 | d::ds,es,xs,ys,h,q=>by
  unfold aj at h
  obtain⟨x,r,e,h1,h2⟩:=h
  subst e
  show aj H (d::(ds++es)) (x::(r++ys))
  unfold aj
  exact⟨x,r++ys,rfl,h1,aj.append h2 q⟩
theorem aj.take {H:Hp}:∀{ds:List PyData} {xs:List V} (n:Nat),aj H ds xs->aj H (ds.take n) (xs.take n)
 | ds,xs,0,h=>by simp[aj]
 | [],xs,n+1,h=>by unfold aj at h; subst h; simp[aj]
 | d::ds,xs,n+1,h=>by
  unfold aj at h
  obtain⟨x,r,e,h1,h2⟩:=h
  subst e
  show aj H (d::ds.take n) (x::r.take n)
  unfold aj
  exact⟨x,_,rfl,h1,aj.take n h2⟩
theorem aj.nil {H:Hp}:aj H [] []:=by unfold aj; rfl
theorem aj.cons {H:Hp} {d:PyData} {ds:List PyData} {x:V} {xs:List V} (h1:At H d x) (h2:aj H ds xs):aj H (d::ds) (x::xs):=by
 unfold aj; exact⟨x,xs,rfl,h1,h2⟩
theorem At.tup {H:Hp} {a:Addr} {xs:List V} {ds:List PyData} (h:H a=some (.tup xs)) (q:aj H ds xs):At H (.tuple ds) (.ref a):=by
 unfold At; exact⟨a,xs,rfl,h,q⟩
theorem At.lst {H:Hp} {a:Addr} {xs:List V} {ds:List PyData} (h:H a=some (.lst xs)) (q:aj H ds xs):At H (.list ds) (.ref a):=by
 unfold At; exact⟨a,xs,rfl,h,q⟩
theorem At.int {H:Hp} (i:Int):At H (.int i) (.int i):=by unfold At; rfl
theorem At.str {H:Hp} (x:Str):At H (.str x) (.str x):=by unfold At; rfl
theorem At.non {H:Hp}:At H .none .non:=by unfold At; rfl
theorem aO {H:Hp} {p:Addr} (h:H p=none) (o:HO):aC H (upd H p o):=fun b u q=>by rw[aL (bV q h)]; exact q
def isInt:PyData->Bool
 | .int _=>true
 | .bool _=>true
 | _=>false
section
variable {X:Cx}
theorem V9:oG X (compareOp .Is) (fun x y H Q=>∃b,y=.bl b/\Q (.bl (decide (x=.bl b))) H):=by
 refine .mk ?_
 intro pins s σ H x y v u Q I rx ry h
 obtain⟨b,rfl,q⟩:=h
 cases(show u=Value.bool b from ry)
 have hp:plainIs v (.bool b)=true:=by
  cases x <;> first | (cases rx; rfl) | (obtain⟨t,rfl⟩:=rx; rfl)
 refine wpAny_is_plain hp (bG I q ?_)
 cases x with
 | bl c=>
  cases(show v=Value.bool c from rx)
  by_cases e:c=b
  ·subst e; simp
  ·rw[fH (fun z=>e (by injection z))]; exact(beq_eq_false_iff_ne.mpr (fun z=>e (by injection z))).symm
 | _=>first
  | (cases rx; rw[fH (fun z=>nomatch z)]; rfl)
  | (obtain⟨t,rfl⟩:=rx; rw[fH (fun z=>nomatch z)]; rfl)
theorem Df:∀(ns:List Int),preSum (fun i=>ns.getD i 0) ns.length=ns.sum:=by
 have key:∀(ns:List Int) (k:Nat),k<=ns.length->preSum (fun i=>ns.getD i 0) k=(ns.take k).sum:=by
  intro ns k
  induction k with
  | zero=>intro _; rfl
  | succ k ih=>
   intro hk
   have e:ns.take (k+1)=ns.take k++[ns.getD k 0]:=by
    rw[Ca,eV (by omega)]
    simp[iB,eV (show k<ns.length by omega)]
   show preSum _ k+ns.getD k 0=_
   rw[ih (by omega),e,List.sum_append]
   simp
 intro ns
 rw[key ns ns.length (cW _),wY]
theorem Iw {ns:List Int} {its:List Value} (r:Vals (ns.map V.int) its) {i:Nat} {v:Value} (h:its.toArray[i]?=some v):∃t,v=.int (ns.getD i 0) t:=by
 have h':its[i]?=some v:=by simpa using h
 have hi:i<its.length:=(fK.mp h').1
 have hl:=r.length
 rw[bR] at hl
 obtain⟨u,hu,ru⟩:=r.get (i:=i) (x:=V.int (ns[i]'(by omega))) (by rw[g8,eV (by omega)]; rfl)
 rw[h'] at hu
 cases hu
 obtain⟨t,e⟩:=ru
 exact⟨t,by rw[e,iB,eV (by omega)]; rfl⟩
theorem yP (hc:X.calm=true):dI X (.builtin "sum") (fun vs H Q=>∃(p:Addr) (ns:List Int),vs=[.ref p]/\(H p=some (.lst (ns.map V.int))\/H p=some (.tup (ns.map V.int)))/\Q (.int ns.sum) H):=by
 refine .mk ?_
 intro pins s σ H vs us Q I r h
 obtain⟨p,ns,rfl,hp,q⟩:=h
 obtain⟨u,rfl,ru⟩:=r.one
 cases ru
 have fin:∀{h':Heap} {tk:Nat} {t':Tok} {o:Obj},(∀b o',b∉[s.heap.objs.size]->(s.heap.push o).get? b=some o'->h'.get? b=some o')->EP X pins σ Q (.int (preSum (fun i=>ns.getD i 0) ns.length) t') { s with heap:=h',toks:=tk }:=fun {h' tk t' o} hk=>
  ⟨.int ns.sum,H,I.kept (t':=tk) (fun b o' eb=>hk b o' (by simpa using gk (b_ eb)) (gb _ eb)),⟨t',by rw[Df]⟩,q⟩
 rcases hp with hp | hp
 ·obtain⟨z,its,n,rv,e⟩:=I.hok p _ hp
  have hl:s.heap.IsList p its.toArray:=⟨_,e,rfl,n,rfl⟩
  have lt:p<s.heap.objs.size:=b_ e
  have hlen:=rv.length
  rw[bR] at hlen
  refine call_sum_walkG (Hw hl ?_)
  refine⟨_,_,_,_,_,_,fun i=>ns.getD i 0,rfl,Walks.list (A:=X.A.in1) (I.ok.hd hc) _ p (gk lt) _,⟨⟨_,dX _ rfl,rfl,rfl⟩,hl.push _⟩,fun b hb=>?_,fun i v hv=>Iw rv hv,fun h' tk t' hk=>?_⟩
  ·show b<(s.heap.push _).objs.size
   rw[mK]
   rcases b8.mp hb with rfl | hb
   ·exact CP _
   ·rw[fj.mp hb]; exact JW lt
  ·rw[fJ,<- hlen]; exact fin hk
 ·obtain⟨z,its,rv,ht⟩:=I.hok p _ hp
  have ht':s.heap.IsTuple p its.toArray:=ht
  have lt:p<s.heap.objs.size:=by obtain⟨o,e,_⟩:=ht; exact b_ e
  have hlen:=rv.length
  rw[bR] at hlen
  refine call_sum_walkG (J0 ht' ?_)
  refine⟨_,_,_,_,_,_,fun i=>ns.getD i 0,rfl,Walks.tuple (A:=X.A.in1) (I.ok.hd hc) _ p (gk lt) _,⟨⟨_,dX _ rfl,rfl,rfl⟩,?_⟩,fun b hb=>?_,fun i v hv=>Iw rv hv,fun h' tk t' hk=>?_⟩
  ·obtain⟨o,e,c⟩:=ht'
   exact⟨o,gb _ e,c⟩
  ·show b<(s.heap.push _).objs.size
   rw[mK]
   rcases b8.mp hb with rfl | hb
   ·exact CP _
   ·rw[fj.mp hb]; exact JW lt
  ·rw[fJ,<- hlen]; exact fin hk
theorem yS:dI X (.type "int") (fun vs H Q=>∃(b:Bool),vs=[.bl b]/\Q (.int (if b then 1 else 0)) H):=by
 refine .mk ?_
 intro pins s σ H vs us Q I r h
 obtain⟨b,rfl,q⟩:=h
 obtain⟨u,rfl,ru⟩:=r.one
 cases(show u=Value.bool b from ru)
 exact call_int_bool ⟨.int (if b then 1 else 0),H,I.tok _,⟨_,rfl⟩,q⟩
end
mutual
theorem gZ {P:Program} {w:World} {H:Hp} {h:Heap} (ok:lK P w H h):∀(d:PyData) (v:V) (u:Value),At H d v->RelV v u->d.hasDict=false->∃as,Reads h u d as
 | .none,v,u,a,r,_=>by unfold At at a; subst a; cases r; exact⟨_,.none⟩
 | .bool b,v,u,a,r,_=>by unfold At at a; subst a; cases r; exact⟨_,.bool b⟩
 | .int i,v,u,a,r,_=>by unfold At at a; subst a; obtain⟨t,rfl⟩:=r; exact⟨_,.int i t⟩
 | .str x,v,u,a,r,_=>by unfold At at a; subst a; obtain⟨t,rfl⟩:=r; exact⟨_,.str x t⟩
 | .tuple ds,v,u,a,r,nd=>by
  unfold At at a
  obtain⟨p,xs,e,hp,ha⟩:=a
  subst e
  cases r
  obtain⟨_,its,rv,o,e1,e2,n,e3⟩:=ok p _ hp
  obtain⟨as,ra⟩:=qY ok ds xs its ha rv (by simpa[PyData.hasDict] using nd)
  exact⟨_,.tuple e1 e2 e3 (by simpa using ra)⟩
 | .list ds,v,u,a,r,nd=>by
  unfold At at a
  obtain⟨p,xs,e,hp,ha⟩:=a
  subst e
  cases r
  obtain⟨_,its,n,rv,e1⟩:=ok p _ hp
  obtain⟨as,ra⟩:=qY ok ds xs its ha rv (by simpa[PyData.hasDict] using nd)
  exact⟨_,.list e1 rfl rfl (by simpa using ra)⟩
 | .dict kvs,v,u,a,r,nd=>by simp[PyData.hasDict] at nd
theorem qY {P:Program} {w:World} {H:Hp} {h:Heap} (ok:lK P w H h):∀(ds:List PyData) (xs:List V) (us:List Value),aj H ds xs->Vals xs us->PyData.hasDictAll ds=false->∃as,ReadsAll h us ds as
 | [],xs,us,a,r,_=>by unfold aj at a; subst a; cases r; exact⟨_,.nil⟩
 | d::ds,xs,us,a,r,nd=>by
  unfold aj at a
  obtain⟨x,t,e,h1,h2⟩:=a
  subst e
  have Oz:d.hasDict=false/\PyData.hasDictAll ds=false:=by simpa[PyData.hasDictAll] using nd
  cases r with
  | cons r1 r2=>
   obtain⟨as,q1⟩:=gZ ok d x _ h1 r1 Oz.1
   obtain⟨bs,q2⟩:=qY ok ds t _ h2 r2 Oz.2
   exact⟨_,.cons q1 q2⟩
end
structure adM (d:PyData):Prop where
 can:d.showable=true
 nod:d.hasDict=false
 len:d.shown.length<=sizeLine
 dep:d.depth<=60
section
variable {X:Cx}
def Gi (mg:Str->Option Value) (x:Str) (i:Int):Prop:=∃t,mg x=some (.int i t)
theorem FN {x:Str} {i:Int} {pos:Pos} (h:Gi X.mg x i) (hg:Gl X x:=by rfl) (hd:(x==("__debug__" : Str))=false:=by decide):PE X (.Name x pos) (tC (.int i)):=by
 obtain⟨t,ht⟩:=h
 exact zR hg ht ⟨t,rfl⟩ hd
structure Ct (P:Program) (w:World) (K:PySem.W.Frag) (mg:Str->Option Value) (base:Heap) (k:Nat) (x:Str) (ps:List Str) (sp:Sp) where
 f:Addr
 fd:FuncData
 G:bM P w K mg base iH k f fd ps sp
 kp:PySem.W.keepIn K (.ref f)=true
 b:Binds K fd ps []
 m:mg x=some (.ref f)
def Ct.mono {P:Program} {w:World} {K:PySem.W.Frag} {mg:Str->Option Value} {base:Heap} {j k:Nat} {x:Str} {ps:List Str} {sp:Sp} (c:Ct P w K mg base j x ps sp) (h:j<=k):Ct P w K mg base k x ps sp:={ c with G:=c.G.mono h }
theorem Y6 {k:Nat} {x:Str} {ps:List Str} {sp:Sp} {e:Expr} {es:List Expr} {t:TA} {p pos:Pos} (c:Ct X.prog X.w X.K X.mg X.base k x ps sp) (hr:gM k X.A) (ha:PA X (e::es) t) (hg:Gl X x:=by rfl)
  (hdb:(x==("__debug__" : Str))=false:=by decide) (he:starEach (e::es) X.env=(false,eval e X.env)::starEach es X.env:=by rfl) (hpl:(backTo pos (starEach es X.env)).any (·.1)=false:=by rfl) :
  PE X (.Call (.Name x p) (e::es) [] pos) (rQ sp [] E0 t):=HY c.G hr hg c.m c.kp c.b .nil UW ha hdb he hpl
end
theorem Rp {v:V} {σ:St} {H:Hp} {Q:VK}:ue 0 (some v::σ) H Q=Q v H:=rfl
theorem Ro {i:Nat} {o:Option V} {σ:St} {H:Hp} {Q:VK}:ue (i+1) (o::σ) H Q=ue i σ H Q:=rfl
theorem Rt {v:V} {o:Option V} {σ:St}:(o::σ).set 0 (some v)=some v::σ:=rfl
theorem Rr {i:Nat} {v:V} {o:Option V} {σ:St}:(o::σ).set (i+1) (some v)=o::σ.set i (some v):=rfl
theorem Np {t:TG} {u:QF} {v:V} {r:List V} {σ:St} {H:Hp} {Q:St->Hp->Prop}:je t u (v::r) σ H Q=t v σ H fun σ' H'=>u r σ' H' Q:=rfl
theorem Ru {σ:St} {H:Hp} {Q:St->Hp->Prop}:xr [] σ H Q=Q σ H:=rfl
theorem iw {b:Bool} {A B:Prop} (h1:b=true->A) (h2:b=false->B):if b=true then A else B:=by
 cases b
 ·rw[aK (by decide)]; exact h2 rfl
 ·rw[aM rfl]; exact h1 rfl
theorem VN {i j:Int} {H:Hp} {Q:VK}:YS (.int i) (.int j) H Q=Q (.bl (decide (i=j))) H:=by
 unfold YS JQ; simp
theorem Nm {i j:Int} {H:Hp} {Q:VK}:YM (.int i) (.int j) H Q=Q (.bl (!decide (i=j))) H:=by
 unfold YM JQ; simp
theorem VM {i j:Str} {H:Hp} {Q:VK}:YS (.str i) (.str j) H Q=Q (.bl (decide (i=j))) H:=by
 unfold YS JQ; simp
theorem Nk {i j:Str} {H:Hp} {Q:VK}:YM (.str i) (.str j) H Q=Q (.bl (!decide (i=j))) H:=by
 unfold YM JQ; simp
theorem Rv {i:Int} {P:Int->Prop}:(∃k,[V.int i]=[V.int k]/\P k)=P i:=by
 simp
theorem Rx {i:Bool} {P:Bool->Prop}:(∃k,[V.bl i]=[V.bl k]/\P k)=P i:=by
 simp
theorem Nq {i j:Int} {P:Int->Int->Prop}:(∃a b,[V.int i,V.int j]=[V.int a,V.int b]/\P a b)=P i j:=by
 refine propext ⟨?_,fun h=>⟨i,j,rfl,h⟩⟩
 rintro⟨a,b,e,h⟩
 cases e
 exact h
theorem Rq {b:Bool} {P:Bool->Prop}:(∃k,V.bl b=V.bl k/\P k)=P b:=by
 simp
theorem VL {i:Int} {P:Int->Prop}:(∃k,V.int i=V.int k/\P k)=P i:=by
 simp
theorem YG {i j:Int} {P:Int->Int->Prop}:(∃a b,V.int i=V.int a/\V.int j=V.int b/\P a b)=P i j:=by
 simp
theorem sO {α β:Type} {g:β->α->β} {f:α->β->Sem (ForInStep β)}:∀(l:List α) (c:β),(∀x∈l,∀c,f x c=pure (.yield (g c x)))->forIn l c f=(pure (l.foldl g c):Sem β)
 | [],c,_=>rfl
 | x::l,c,h=>by
  rw[yr,h x jo c,pure_bind]
  exact sO l (g c x) fun y hy=>h y (il _ hy)
theorem jg {sc:Scope} {env:Env} (h:(sc.names.all fun y=>y.2 != .free || (env.cells.lookup y.1).isSome)=true):closureFor sc env=pure (pF sc env):=by
 unfold closureFor pF
 dsimp only
 rw[sO (g:=jh env) sc.names [] (fun y hy c=>?_)]
 ·rfl
 obtain⟨n,k⟩:=y
 have a:=wX.mp h _ hy
 dsimp only
 unfold jh
 dsimp only
 cases hk:(k==NameKind.free) with
 | false=>simp
 | true=>
  have hk':k=.free:=beq_iff_eq.mp hk
  subst hk'
  have a':(env.cells.lookup n).isSome=true:=by simpa using a
  obtain⟨c',hc'⟩:=Cq.mp a'
  simp[cellOf,hc']
theorem mV {sc:Scope} (h:(sc.names.all fun y=>y.2 != .local || sc.names.lookup y.1==some .local)=true):∀y∈sc.names,y.2=.local->sc.names.lookup y.1=some .local:=fun y hy e=>by
 have a:=wX.mp h y hy
 rw[e] at a
 simpa using a
theorem tO.mk0 {X:Cx} {x:Str} {sc:Scope} (k:sc.kind=.function:=by rfl) (n:(sc.names.all fun y=>y.2 != .cell&&y.2 != .free)=true:=by decide +kernel) (l:(sc.names.all fun y=>y.2 != .local || sc.names.lookup y.1==some .local)=true:=by decide +kernel):tO X [x] [] sc:=by
 have n':∀y∈sc.names,y.2≠.cell/\y.2≠.free:=fun y hy=>by have:=wX.mp n y hy; simpa using this
 have al:(sc.names.all fun y=>y.2 != .free || (X.env.cells.lookup y.1).isSome)=true:=wX.mpr fun y hy=>by simp[(n' y hy).2]
 exact⟨k,fun y hy=>(n' y hy).1,mV l,jg al,al,rfl,fun i j h=>by simp at h,fun y h=>by simp at h⟩
theorem tO.mk1 {X:Cx} {x y:Str} {sc:Scope} {j:Nat} (hj:X.N[j]?=some y:=by rfl) (k:sc.kind=.function:=by rfl) (n:(sc.names.all fun y=>y.2 != .cell)=true:=by decide +kernel)
  (l:(sc.names.all fun y=>y.2 != .local || sc.names.lookup y.1==some .local)=true:=by decide +kernel) (al:(sc.names.all fun y=>y.2 != .free || (X.env.cells.lookup y.1).isSome)=true:=by rfl)
  (k1:X.env.kindOf y=some .cell:=by rfl) (k2:sc.names.lookup y=some .free:=by rfl):tO X [x,y] [j] sc:=by
 have n':∀y∈sc.names,y.2≠.cell:=fun y hy=>by have:=wX.mp n y hy; simpa using this
 refine⟨k,n',mV l,jg al,al,rfl,fun i j' h=>?_,fun z h=>?_⟩
 ·cases i with
  | zero=>simp at h; subst h; exact hj.symm
  | succ i=>simp at h
 ·have e:z=y:=by simpa using h
  subst e; exact⟨k1,k2⟩
theorem tO.mk2 {X:Cx} {x y z:Str} {sc:Scope} {j j2:Nat} (hj:X.N[j]?=some y:=by rfl) (hj2:X.N[j2]?=some z:=by rfl) (k:sc.kind=.function:=by rfl) (n:(sc.names.all fun y=>y.2 != .cell)=true:=by decide +kernel)
  (l:(sc.names.all fun y=>y.2 != .local || sc.names.lookup y.1==some .local)=true:=by decide +kernel) (al:(sc.names.all fun y=>y.2 != .free || (X.env.cells.lookup y.1).isSome)=true:=by rfl)
  (k1:X.env.kindOf y=some .cell:=by rfl) (k2:sc.names.lookup y=some .free:=by rfl) (k3:X.env.kindOf z=some .cell:=by rfl) (k4:sc.names.lookup z=some .free:=by rfl):tO X [x,y,z] [j,j2] sc:=by
 have n':∀y∈sc.names,y.2≠.cell:=fun y hy=>by have:=wX.mp n y hy; simpa using this
 refine⟨k,n',mV l,jg al,al,rfl,fun i j' h=>?_,fun v h=>?_⟩
 ·match i,h with
  | 0,h=>simp at h; subst h; exact hj.symm
  | 1,h=>simp at h; subst h; exact hj2.symm
  | i+2,h=>simp at h
 ·have e:v=y\/v=z:=by simpa using h
  rcases e with e | e
  ·subst e; exact⟨k1,k2⟩
  ·subst e; exact⟨k3,k4⟩
def cG:Expr->Bool
 | .Starred _ _=>false
 | _=>true
theorem cP {env:Env} {e:Expr} {es:List Expr} (h:cG e=true):starEach (e::es) env=(false,eval e env)::starEach es env:=by
 cases e <;> first | rfl | exact absurd h (by simp[cG])
theorem cN {env:Env} {pos:Pos}:∀{es:List Expr},es.all cG=true->(backTo pos (starEach es env)).any (·.1)=false
 | [],_=>rfl
 | e::es,h=>by
  have h':cG e=true/\es.all cG=true:=by simpa using h
  rw[cP h'.1]
  show(false || (backTo pos (starEach es env)).any (·.1))=false
  rw[cN h'.2]; rfl
section
variable {X:Cx} {x:Str} {p pos:Pos} {e:Expr} {es:List Expr} {te:TE} {t:TA} {id T:String} {r:List V->Hp->VK->Prop}
theorem aa (ha:PE X e te) (hr:PA X es t) (h:cG e=true:=by rfl):PA X (e::es) (G_ te t):=RQ ha hr (cP h)
theorem pf {k:Nat} {ps:List Str} {sp:Sp} (c:Ct X.prog X.w X.K X.mg X.base k x ps sp) (hr:gM k X.A) (ha:PA X (e::es) t) (hg:Gl X x:=by rfl) (hdb:(x==("__debug__" : Str))=false:=by decide) (h1:cG e=true:=by rfl) (h2:es.all cG=true:=by rfl) :
  PE X (.Call (.Name x p) (e::es) [] pos) (rQ sp [] E0 t):=Y6 c hr ha hg hdb (cP h1) (cN h2)
theorem pb (hc:dI X (.builtin id) r) (hm:X.mg x=none) (hv:bootBuiltins x=some (.builtin id)) (ha:PA X (e::es) t) (hg:Gl X x:=by rfl) (hn:x ≠ "__name__" := by decide) (hdb:(x==("__debug__" : Str))=false:=by decide)
  (h1:cG e=true:=by rfl) (h2:es.all cG=true:=by rfl):PE X (.Call (.Name x p) (e::es) [] pos) (Vx r t):=Oe hc hg hm hv ha hn hdb (cP h1) (cN h2)
theorem pt (hc:dI X (.type T) r) (hm:X.mg x=none) (hv:bootBuiltins x=some (.type T)) (ha:PA X (e::es) t) (hg:Gl X x:=by rfl) (hn:x ≠ "__name__" := by decide) (hdb:(x==("__debug__" : Str))=false:=by decide)
  (h1:cG e=true:=by rfl) (h2:es.all cG=true:=by rfl):PE X (.Call (.Name x p) (e::es) [] pos) (Vx r t):=J9 hc hg hm hv ha hn hdb (cP h1) (cN h2)
end
end L2
namespace HT
open PySem PyProof.Rows
section
variable {prog:Program} {w:World} {A:Around} {E:Value->Shared->Prop} {s:Shared}
theorem qF {t sl:Addr} {items:Array Value} {vl vu:Value} {lo hi:Option Int} {Q:Value->Shared->Prop} (ht:IsTup s.heap t items) (hs:s.heap.IsSliceOf sl vl vu .none) (pl:IsPart vl lo) (pu:IsPart vu hi)
  (hw1:eZ items.size 0 lo=0) (hw2:eZ items.size items.size hi=items.size) (h:Q (.ref t) s):wpAny (model prog w) A (getItem (.ref t) (.ref sl)) Q E s:=by
 obtain⟨os,hos,hcs,hds⟩:=id hs
 have tyS:s.TypeIs (.ref sl) "slice" := ⟨os,hos,hcs⟩
 unfold getItem
 try with_reducible refine oO ?_
 first | refine aN (bK ?_) | skip
 refine aN (wpAny_sequenceKey ht.typeIs (by decide) ?_)
 refine aN (J5 (name:=Str.ofString "__getitem__") ht.typeIs PyProof.Rows.slot_tuple_getitem (uT PyProof.Rows.slot_tuple_getitem ht.typeIs entry_tuple_getitem ?_ (args_tuple_getitem _ _)))
 show wpAny _ _ (Builtin.Tuple.tupleItemsOf (.ref t) >>= _) _ _ s
 refine aN (tupleItemsOf_ ht ?_)
 refine aN (ym tyS ?_)
 rw[aM (by decide)]
 refine aN (jR hs pl pu ?_)
 have yes:(((eZ items.size 0 lo:Nat):Int)==0&&(1:Int)==1&&(eZ items.size items.size hi-eZ items.size 0 lo)==items.size)=true:=by
  rw[hw1,hw2]; simp
 show wpAny _ _ (if(((eZ items.size 0 lo:Nat):Int)==0&&(1:Int)==1&&(eZ items.size items.size hi-eZ items.size 0 lo)==items.size)=true then _ else _) _ _ s
 rw[aM yes]
 have ex:∀{R:Bool->Shared->Prop},R true s->wpAny (model prog w) A.in1 (Builtin.Tuple.tupleIsExact (.ref t)) R E s:=fun {R} q=>by
  unfold Builtin.Tuple.tupleIsExact
  refine aN (ym ht.typeIs (bK ?_))
  rw[beq_self_eq_true]
  exact q
 refine aN (ex ?_)
 rw[aM rfl]
 exact aN (uQ (bK ⟨_,rfl,bK h⟩))
end
end HT
namespace L2
open PySem PySem.Spec PyProof.Rows
theorem lG:bootBuiltins "len" = some (.builtin "len"):=by decide +kernel
theorem Qv:bootBuiltins "sum" = some (.builtin "sum"):=by decide +kernel
theorem Qx:bootBuiltins "abs" = some (.builtin "abs"):=by decide +kernel
theorem ji:bootBuiltins "min" = some (.builtin "min"):=by decide +kernel
theorem lF:bootBuiltins "max" = some (.builtin "max"):=by decide +kernel
theorem Qw:bootBuiltins "int" = some (.type "int"):=by decide +kernel
theorem Jl:bootBuiltins "list" = some (.type "list"):=by decide +kernel
theorem cT:bootBuiltins "tuple" = some (.type "tuple"):=by decide +kernel
theorem Tt:bootBuiltins "dict" = some (.type "dict"):=by decide +kernel
theorem Ef:bootBuiltins "range" = some (.type "range"):=by decide +kernel
theorem Ba:bootBuiltins "enumerate" = some (.type "enumerate"):=by decide +kernel
theorem W3:bootBuiltins "zip" = some (.type "zip"):=by decide +kernel
section
variable {X:Cx}
def aaW (K:PySem.W.Frag):List V->Hp->VK->Prop:=fun vs H Q=>∃(p:Addr) (ys:List V),vs=[.ref p]/\(gW K H p ys\/cA K H p ys)/\Q (.int ys.length) H
theorem d7 {K:PySem.W.Frag} (hK:X.K=K):dI X (.builtin "len") (aaW K):=by
 subst hK
 exact Ay
def aaT:V->Option Int->Option Int->Hp->VK->Prop:=fun x lo hi H Q=>∃(a:Addr) (xs:List V),x=.ref a/\H a=some (.tup xs)/\∀p H',aC H H'->H' p=some (.tup (nq xs lo hi))->Q (.ref p) H'
theorem gO:XD X aaT:=by
 refine .mk ?_
 intro pins s σ H x v vl vu lo hi sl Q I rx hs pl pu h
 obtain⟨a,xs,e,hx,q⟩:=h
 by_cases hw:HT.eZ xs.length 0 lo=0/\HT.eZ xs.length xs.length hi=xs.length
 ·subst e
  cases rx
  obtain⟨its,r,ht,hz⟩:=I.tuple (cA.of (K:=X.K) hx)
  have hlen:its.toArray.size=xs.length:=by rw[fJ]; exact r.length.symm
  refine⟨"tuple",_,PyProof.Rows.slot_tuple_getitem.lookup,ht.typeIs,?_⟩
  refine HT.qF ht hs pl pu (by rw[hlen]; exact hw.1) (by rw[hlen]; exact hw.2) ⟨.ref a,H,I,rfl,q a H (aC.refl H) ?_⟩
  rw[hx]
  unfold nq
  rw[hw.1,hw.2,List.drop_zero,Nat.sub_zero,wY]
 ·exact VD pins s σ H x v vl vu lo hi sl Q I rx hs pl pu ⟨a,xs,e,cA.of hx,hw,fun p hp=>q p _ (aO hp _) az⟩
def YT:R2:=fun x y H Q=>∃(a b:Addr) (xs ys:List V),x=.ref a/\y=.ref b/\H a=some (.tup xs)/\H b=some (.tup ys)/\xs.length+ys.length<=sizeLine/\∀p H',aC H H'->H' p=some (.tup (xs++ys))->Q (.ref p) H'
theorem tV:oG X (binaryOp .Add) YT:=by
 refine .mk ?_
 intro pins s σ H x y v u Q I rx ry h
 obtain⟨a,b,xs,ys,e1,e2,ha,hb,hz,q⟩:=h
 by_cases hx:xs=[]
 ·subst hx e1 e2
  cases rx
  cases ry
  obtain⟨its,r1,p1,_⟩:=I.tuple (cA.of (K:=X.K) ha)
  obtain⟨its2,r2,p2,_⟩:=I.tuple (cA.of (K:=X.K) hb)
  cases r1
  obtain⟨⟨cls,dd,data,sl⟩,ho,hc,n,hd⟩:=id p1
  obtain⟨⟨cls2,dd2,data2,sl2⟩,ho2,hc2,n2,hd2⟩:=id p2
  simp only at hc hd hc2 hd2
  subst hc hd hc2 hd2
  exact concat_meets ⟨_,ho,rfl⟩ ⟨_,ho2,rfl⟩ noFill_tuple_add seq_tuple_add PySem.F.slot_tuple_add PySem.F.entry_tuple_add (PySem.F.args_tuple_add_2 _ _) (tuple_addW0 a b _ _ n n2 dd dd2 sl sl2 (by rfl)) ⟨ho,ho2,⟨.ref b,H,I,rfl,q b H (aC.refl H) hb⟩⟩
 ·refine RX pins s σ H x y v u Q I rx ry ⟨a,b,xs,ys,e1,e2,cA.of ha,cA.of hb,hx,hz,fun z=>?_,fun _ p hp=>q p _ (aO hp _) az⟩
  subst z
  exact q a H (aC.refl H) (by rw[ha,mL])
def JV:R2:=fun x y H Q=>∃(p:Addr) (xs:List V) (i:Int) (v:V),x=.ref p/\y=.int i/\(H p=some (.lst xs)\/H p=some (.tup xs))/\GR xs i=some v/\Q v H
theorem aU:QQ X JV:=by
 have h:=(Ip (X:=X)).or Ww
 refine .mk ?_
 intro a b pins s σ H x y v u Q I rx ry q
 obtain⟨p,xs,i,z,e1,e2,hp,ha,q⟩:=q
 intro hs
 refine h a b pins s σ H x y v u Q I rx ry ?_ hs
 rcases hp with hp | hp
 ·exact .inl ⟨p,xs,i,z,e1,e2,gW.of hp,ha,q⟩
 ·exact .inr ⟨p,xs,i,z,e1,e2,cA.of hp,ha,q⟩
theorem Ix.tup {a:Addr} {xs:List V} {i:Int} {v:V} {H:Hp} {Q:VK} (h:H a=some (.tup xs)) (e:GR xs i=some v) (q:Q v H):JV (.ref a) (.int i) H Q:=⟨a,xs,i,v,rfl,rfl,.inr h,e,q⟩
theorem Ix.lst {a:Addr} {xs:List V} {i:Int} {v:V} {H:Hp} {Q:VK} (h:H a=some (.lst xs)) (e:GR xs i=some v) (q:Q v H):JV (.ref a) (.int i) H Q:=⟨a,xs,i,v,rfl,rfl,.inl h,e,q⟩
theorem WY {js:List Nat} {ta:TA} {te:TE} {σ:St} {H:Hp} {Q:VK} {n:Nat} (hl:∀R:List V->Hp->Prop,R [.int n] H->ta σ H R) (hn:n<=1000000)
  (h:∀acc,H acc=none->∃Pv:Nat->List V->Hp->Prop,Pv 0 [] (upd H acc (.lst [])) /\
   (∀i ys H',i<n->Pv i ys H'->te (some (.int (0+(i:Nat)))::bO js σ) H' fun y cZ=>cZ acc=some (.lst ys)/\ys.length<sizeLine/\Pv (i+1) (ys++[y]) (upd cZ acc (.lst (ys++[y])))) /\
   ∀ys H',Pv n ys H'->Q (.ref acc) H'):gq js (DK ta) te σ H Q:=by
 refine hl _ ⟨n,rfl,by omega,by omega,fun acc hacc=>?_⟩
 obtain⟨Pv,h0,hs,hd⟩:=h acc hacc
 have en:((n:Int)).toNat=n:=uU n
 rw[en]
 refine⟨fun i m ys H'=>m=n-i/\i<=n/\Pv i ys H',⟨n,rfl,e_ _,h0⟩,?_⟩
 rintro i m ys H2 ⟨rfl,hi,p⟩
 by_cases hlt:i<n
 ·refine .inr ⟨hlt,fun x H3 y=>?_⟩
  obtain⟨e,y⟩:=y
  subst e y
  have Ub:=hs i ys _ hlt p
  have fe:(fun(y:V) (cZ:Hp)=>cZ acc=some (.lst ys)/\ys.length<sizeLine/\Pv (i+1) (ys++[y]) (upd cZ acc (.lst (ys++[y]))))=fun y H4=>H4 acc=some (.lst ys)/\ys.length<sizeLine/\∃m',m'<n-i/\(m'=n-(i+1)/\i+1<=n/\Pv (i+1) (ys++[y]) (upd H4 acc (.lst (ys++[y])))):=by
   funext y cZ
   refine propext ⟨fun⟨a,b,c⟩=>⟨a,b,_,by omega,rfl,hlt,c⟩,fun⟨a,b,m',_,_,_,c⟩=>⟨a,b,c⟩⟩
  rw[fe] at Ub
  exact Ub
 ·have e:i=n:=by omega
  subst e
  exact .inl ⟨cW _,hd ys _ p⟩
theorem cz:dI X (.type "tuple") (fun vs H Q=>∃(p:Addr) (ys:List V),vs=[.ref p]/\H p=some (.lst ys)/\∀l,H l=none->Q (.ref l) (upd H l (.tup ys))):=by
 refine .mk ?_
 intro pins s σ H vs us Q I r h
 obtain⟨p,ys,e,hp,q⟩:=h
 exact xG pins s σ H vs us Q I r ⟨p,ys,e,.inl ⟨gW.of hp,q⟩⟩
theorem Lf:dI X (.type "list") (fun vs H Q=>∃(p:Addr) (ys:List V),vs=[.ref p]/\H p=some (.tup ys)/\∀l,H l=none->Q (.ref l) (upd H l (.lst ys))):=by
 refine .mk ?_
 intro pins s σ H vs us Q I r h
 obtain⟨p,ys,e,hp,q⟩:=h
 exact Ax pins s σ H vs us Q I r ⟨p,ys,e,.inr (cA.of hp),q⟩
theorem Zw {ta:TA} {g:TG} {tb:TS} {D:Ends} {σ:St} {H:Hp} {n:Nat} (hl:∀R:List V->Hp->Prop,R [.int n] H->ta σ H R) (hn:n<=1000000) (Pv:Nat->St->Hp->Prop) (h0:Pv 0 σ H)
  (hs:∀i σ H,i<n->Pv i σ H->g (.int (0+(i:Nat))) σ H fun σ2 H2=>tb { D with nx:=Pv (i+1),ct:=Pv (i+1),bk:=D.nx } σ2 H2) (hd:∀σ H,Pv n σ H->D.nx σ H):Bu (DK ta) g tb D σ H:=by
 refine hl _ ⟨n,rfl,by omega,by omega,?_⟩
 rw[uU]
 exact yL Pv h0 hs hd
def Uo (t:TA):TE:=fun σ H Q=>t σ H fun xs H1=>xs.length<=sizeLine/\∀p H',H1 p=none->aC H1 H'->H' p=some (.lst xs)->Q (.ref p) H'
def Mw (t:TA):TE:=fun σ H Q=>t σ H fun xs H1=>xs.length<=sizeLine/\∀p H',H1 p=none->aC H1 H'->H' p=some (.tup xs)->Q (.ref p) H'
theorem cX {es:List Expr} {t:TA} {pos:Pos} (h:PA X es t):PE X (.List es pos) (Uo t):=by
 refine .mk ?_
 intro pins s σ H Q I hq
 refine wpAny_List_spliced (cB (h pos pins s σ H _ I hq) fun us s1 ⟨xs,H1,I1,r,z,q⟩=>⟨by rw[<- r.length]; exact z,?_⟩)
 have fr:H1 s1.heap.objs.size=none:=I1.hok.fresh (cW _)
 exact⟨.ref s1.heap.objs.size,upd H1 s1.heap.objs.size (.lst xs),I1.laid (t':=s1.toks) (fun b u e=>gb _ e) (cW _) ⟨z,us,0,r,dX _ rfl⟩,rfl,q _ _ fr (aO fr _) az⟩
theorem aY {es:List Expr} {t:TA} {x1} {pos:Pos} (h:PA X es t):PE X (.Tuple es x1 pos) (Mw t):=by
 refine .mk ?_
 intro pins s σ H Q I hq
 refine wpAny_Tuple_spliced (cB (h pos pins s σ H _ I hq) fun us s1 ⟨xs,H1,I1,r,z,q⟩=>⟨by rw[<- r.length]; exact z,?_⟩)
 have fr:H1 s1.heap.objs.size=none:=I1.hok.fresh (cW _)
 exact⟨.ref s1.heap.objs.size,upd H1 s1.heap.objs.size (.tup xs),I1.laid (t':=s1.toks) (fun b u e=>gb _ e) (cW _) ⟨z,us,r,⟨_,dX _ rfl,rfl,_,rfl⟩⟩,rfl,q _ _ fr (aO fr _) az⟩
def hid (a:Addr) (H:Hp):Hp:=fun b=>if b=a then none else H b
theorem bW {a b:Addr} {H:Hp} (h:b≠a):hid a H b=H b:=aK h
theorem j5 {a:Addr} {H:Hp}:hid a H a=none:=aM rfl
theorem m_ {a b:Addr} {H:Hp} {o:HO} (h:hid a H b=some o):b≠a/\H b=some o:=by
 by_cases e:b=a
 ·subst e; rw[j5] at h; cases h
 ·exact⟨e,by rw[bW e] at h; exact h⟩
theorem iG {a:Addr} {H:Hp} {o:HO}:hid a (upd H a o)=hid a H:=by
 funext b
 by_cases e:b=a
 ·subst e; rw[j5,j5]
 ·rw[bW e,bW e,aL e]
theorem cU {a p:Addr} {H:Hp} {o:HO} (h:p≠a):hid a (upd H p o)=upd (hid a H) p o:=by
 funext b
 by_cases e:b=a
 ·subst e; rw[j5,aL (Ne.symm h),j5]
 ·rw[bW e]
  by_cases e':b=p
  ·subst e'; rw[az,az]
  ·rw[aL e',aL e',bW e]
theorem gU {a:Addr} {H:Hp}:aC (hid a H) H:=fun b o h=>(m_ h).2
def SX (a:Addr) (H H':Hp):Prop:=aC (hid a H) (hid a H')
theorem SX.refl (a:Addr) (H:Hp):SX a H H:=aC.refl _
theorem SX.trans {a:Addr} {H H1 H2:Hp} (x:SX a H H1) (y:SX a H1 H2):SX a H H2:=aC.trans x y
theorem SX.of {a:Addr} {H H':Hp} (s:aC H H'):SX a H H':=fun b o h=>by
 obtain⟨n,e⟩:=m_ h
 rw[bW n]; exact s _ _ e
theorem SX.upd {a:Addr} {H:Hp} {o:HO}:SX a H (upd H a o):=by unfold SX; rw[iG]; exact aC.refl _
theorem SX.get {a b:Addr} {H H':Hp} {o:HO} (s:SX a H H') (n:b≠a) (h:H b=some o):H' b=some o:=by
 have:=s b o (by rw[bW n]; exact h)
 exact(m_ this).2
def Tp (H:Hp) (a:Addr) (n:Nat):Prop:=∃x y z:Int,H a=some (.lst [.int x,.int y,.int z])/\0<=x/\0<=y/\y<4611686018427387904/\0<=z/\z<=n
theorem Tp.mono {H:Hp} {a:Addr} {n m:Nat} (h:Tp H a n) (l:n<=m):Tp H a m:=by
 obtain⟨x,y,z,e,h1,h2,h3,h4,h5⟩:=h
 exact⟨x,y,z,e,h1,h2,h3,h4,by omega⟩
theorem Tp.same {H H':Hp} {a:Addr} {n:Nat} (h:Tp H a n) (s:aC H H'):Tp H' a n:=by
 obtain⟨x,y,z,e,r⟩:=h
 exact⟨x,y,z,s _ _ e,r⟩
theorem Tp.ne {H:Hp} {a b:Addr} {n:Nat} (h:Tp H a n) (e:H b=none):b≠a:=by
 obtain⟨x,y,z,q,_⟩:=h
 intro z; subst z; rw[e] at q; cases q
theorem Tp.neT {H:Hp} {a b:Addr} {n:Nat} {xs:List V} (h:Tp H a n) (e:H b=some (.tup xs)):b≠a:=by
 obtain⟨x,y,z,q,_⟩:=h
 intro z; subst z; rw[e] at q; cases q
theorem aC.hid {a:Addr} {H H':Hp} (s:aC H H'):aC (L2.hid a H) (L2.hid a H'):=fun b o h=>by
 obtain⟨n,e⟩:=m_ h
 rw[bW n]; exact s _ _ e
theorem SX.dw {a p:Addr} {H H':Hp} {o:HO} (s:SX a H H') (hp:H p=none) (pa:p≠a):SX a H (L2.upd H' p o):=fun b u h=>by
 obtain⟨n,e⟩:=m_ h
 rw[cU pa,aL (bV e hp)]
 exact s b u h
theorem Tp.dw {H:Hp} {a p:Addr} {n:Nat} {o:HO} (t:Tp H a n) (pa:p≠a):Tp (L2.upd H p o) a n:=by
 obtain⟨x,y,z,e,r⟩:=t
 exact⟨x,y,z,by rw[aL (Ne.symm pa)]; exact e,r⟩
def TV (K:PySem.W.Frag) (H:Hp) (p:Addr) (xs:List V):Prop:=(∃o,H p=some (.Ja o (.lst xs))) \/
 ∃(o:Obj) (its:Array Value) (n:Nat),K.lookup p=some o/\o.cls=.type "list" /\ o.dict=none/\o.data=.seq its n/\its.size<=sizeLine/\Vals xs its.toList
theorem TV.sq {K:PySem.W.Frag} {H:Hp} {p:Addr} {xs:List V} (h:TV K H p xs):gW K H p xs:=by
 rcases h with⟨o,h⟩ | h
 ·exact .inl (.inr ⟨o,h⟩)
 ·exact .inr h
theorem TV.of {K:PySem.W.Frag} {H:Hp} {p:Addr} {xs:List V} (h:gW K H p xs) (o:Only H):TV K H p xs:=by
 rcases h with(h | h) | h
 ·rcases o p with e | ⟨ob,ys,e⟩
  ·rw[e] at h; cases h
  ·rw[e] at h; cases h
 ·exact .inl h
 ·exact .inr h
theorem TV.same {K:PySem.W.Frag} {H H':Hp} {p:Addr} {xs:List V} (h:TV K H p xs) (s:aC H H'):TV K H' p xs:=by
 rcases h with⟨o,h⟩ | h
 ·exact .inl ⟨o,s _ _ h⟩
 ·exact .inr h
end
mutual
def fine (b:Nat):PyData->Bool
 | .none=>true
 | .bool _=>true
 | .int i=>decide (i.natAbs<=b)
 | .str x=>decide (x.length<=40)&&x.cps.toList.all fun c=>decide (c<4294967296)
 | .tuple ds=>Al b ds
 | .list ds=>Al b ds
 | .dict _=>false
def Al (b:Nat):List PyData->Bool
 | []=>true
 | d::ds=>fine b d&&Al b ds
end
mutual
def Ze:PyData->Nat
 | .tuple ds=>tX ds+3
 | .list ds=>tX ds+3
 | .dict _=>500
 | .none=>500
 | .bool _=>500
 | .int _=>500
 | .str _=>500
def tX:List PyData->Nat
 | []=>0
 | d::ds=>Ze d+2+tX ds
end
structure agh (b D M:Nat) (d:PyData):Prop where
 f:fine b d=true
 dp:d.depth<=D
 m:Ze d<=M
structure aar (b D M:Nat) (ds:List PyData):Prop where
 f:∀d∈ds,fine b d=true
 dp:∀d∈ds,d.depth<=D
 m:tX ds<=M
section
variable {X:Cx}
end
theorem rM {xs:List V} {i:Int} (h:0<=i):nq xs none (some i)=xs.take i.toNat:=by
 obtain⟨j,rfl⟩:∃j:Nat,i=j:=⟨i.toNat,by omega⟩
 unfold nq
 rw[HT.BX,HT.Hr,List.drop_zero,Nat.sub_zero,uU]
 by_cases q:j<=xs.length
 ·rw[Nat.min_eq_left q]
 ·rw[Nat.min_eq_right (by omega),wY,List.take_of_length_le (by omega)]
theorem qH {xs:List V} {i:Int} (h:0<=i):nq xs (some i) none=xs.drop i.toNat:=by
 obtain⟨j,rfl⟩:∃j:Nat,i=j:=⟨i.toNat,by omega⟩
 unfold nq
 rw[HT.BX,HT.Hr,uU]
 by_cases q:j<=xs.length
 ·rw[Nat.min_eq_left q,List.take_of_length_le (by rw[Fw]; omega)]
 ·rw[Nat.min_eq_right (by omega),Ce,List.take_nil,HJ (by omega)]
def isS (d:PyData) (t:Str):Bool:=match d with
 | .str y=>y==t
 | _=>false
section
variable {X:Cx}
theorem V8 (hu:X.A.units+64<cLine):oG X (compareOp .NotEq) (fun x y H Q=>∃d e,At H d x/\At H e y/\d.hasDict=false/\e.hasDict=false/\d.canLay0=true/\e.canLay0=true/\d.depth<=60/\Q (.bl (!PyData.eqv d e)) H):=by
 refine .mk ?_
 intro pins s σ H x y v u Q I rx ry h
 obtain⟨d,e,hd,he,n1,n2,c1,c2,dp,q⟩:=h
 obtain⟨as,r1⟩:=gZ I.hok _ _ _ hd rx n1
 obtain⟨bs,r2⟩:=gZ I.hok _ _ _ he ry n2
 exact SeqAt.compareNe_reads r1 r2 c1 c2 (by have:=Nat.min_le_left d.depth e.depth; omega) (bG I q rfl)
theorem Ol (hu:X.A.units+64<cLine):oG X (compareOp .Eq) (fun x y H Q=>∃d e,At H d x/\At H e y/\d.hasDict=false/\e.hasDict=false/\d.canLay0=true/\e.canLay0=true/\d.depth<=60/\Q (.bl (PyData.eqv d e)) H):=by
 refine .mk ?_
 intro pins s σ H x y v u Q I rx ry h
 obtain⟨d,e,hd,he,n1,n2,c1,c2,dp,q⟩:=h
 obtain⟨as,r1⟩:=gZ I.hok _ _ _ hd rx n1
 obtain⟨bs,r2⟩:=gZ I.hok _ _ _ he ry n2
 exact SeqAt.compareEq_reads r1 r2 c1 c2 (by have:=Nat.min_le_left d.depth e.depth; omega) (bG I q rfl)
end
def FK (g:TG) (tb:TS) (D:Ends) (σ:St) (vs:List V) (H1:Hp):Prop:=∃j:Int,vs=[.int j]/\-(2 ^ 62)<=j/\j<2 ^ 62/\∃W:Nat->Nat->St->Hp->Prop,(∃m,W 0 m σ H1)/\∀i m σ H,W i m σ H ->
 ((LR 0 j.toNat).stop i H/\D.nx σ H)\/((LR 0 j.toNat).go i H/\∃N:St->Hp->Prop,(∀σ' H',N σ' H'->∃m',m'<m/\W (i+1) m' σ' H')/\∀x H',(LR 0 j.toNat).xO i H x H'->g x σ H' fun σ2 H2=>tb { D with nx:=N,ct:=N,bk:=D.nx } σ2 H2)
theorem MF {ta:TA} {g:TG} {tb:TS} {D:Ends} {σ:St} {H:Hp}:Bu (DK ta) g tb D σ H=ta σ H (FK g tb D σ):=rfl
theorem FK.of {g:TG} {tb:TS} {D:Ends} {σ:St} {H:Hp} {n:Nat} {i:Int} (ei:i=n) (hn:n<=1000000) (Pv:Nat->St->Hp->Prop) (h0:Pv 0 σ H)
  (hs:∀i σ H,i<n->Pv i σ H->g (.int (0+(i:Nat))) σ H fun σ2 H2=>tb { D with nx:=Pv (i+1),ct:=Pv (i+1),bk:=D.nx } σ2 H2) (hd:∀σ H,Pv n σ H->D.nx σ H):FK g tb D σ [.int i] H:=by
 subst ei
 refine⟨n,rfl,by omega,by omega,?_⟩
 rw[uU]
 exact yL Pv h0 hs hd
def TK (K:PySem.W.Frag) (g:TG) (tb:TS) (D:Ends) (σ:St) (x:V) (H1:Hp):Prop:=∃a,x=.ref a/\(∃xs,cA K H1 a xs)/\∃W:Nat->Nat->St->Hp->Prop,(∃m,W 0 m σ H1)/\∀i m σ H,W i m σ H ->
 ((Vh K a).stop i H/\D.nx σ H)\/((Vh K a).go i H/\∃N:St->Hp->Prop,(∀σ' H',N σ' H'->∃m',m'<m/\W (i+1) m' σ' H')/\∀x H',(Vh K a).xO i H x H'->g x σ H' fun σ2 H2=>tb { D with nx:=N,ct:=N,bk:=D.nx } σ2 H2)
theorem Mz {K:PySem.W.Frag} {tl:TE} {g:TG} {tb:TS} {D:Ends} {σ:St} {H:Hp}:Bu (xq K tl) g tb D σ H=tl σ H (TK K g tb D σ):=rfl
theorem TK.of {K:PySem.W.Frag} {g:TG} {tb:TS} {D:Ends} {σ:St} {H:Hp} {a:Addr} {xs:List V} (ha:H a=some (.tup xs)) (Pv:Nat->St->Hp->Prop) (h0:Pv 0 σ H) (hl:∀i σ H',i<=xs.length->Pv i σ H'->H' a=some (.tup xs))
  (hs:∀i x σ H,xs[i]?=some x->Pv i σ H->g x σ H fun σ2 H2=>tb { D with nx:=Pv (i+1),ct:=Pv (i+1),bk:=D.nx } σ2 H2) (hd:∀σ H,Pv xs.length σ H->D.nx σ H):TK K g tb D σ (.ref a) H:=
 ⟨a,rfl,⟨xs,cA.of ha⟩,Tc (xs:=xs) Pv h0 (fun i σ H' hi p=>cA.of (hl i σ H' hi p)) hs hd⟩
def CK (js:List Nat) (te:TE) (σ:St) (Q:VK) (vs:List V) (H1:Hp):Prop:=∃j:Int,vs=[.int j]/\-(2 ^ 62)<=j/\j<2 ^ 62/\∀acc,H1 acc=none->∃W:Nat->Nat->List V->Hp->Prop,(∃m,W 0 m [] (upd H1 acc (.lst [])))/\∀i m ys H2,W i m ys H2 ->
 ((LR 0 j.toNat).stop i H2/\Q (.ref acc) H2)\/((LR 0 j.toNat).go i H2/\∀x H3,(LR 0 j.toNat).xO i H2 x H3->te (some x::bO js σ) H3 fun y H4=>H4 acc=some (.lst ys)/\ys.length<sizeLine/\∃m',m'<m/\W (i+1) m' (ys++[y]) (upd H4 acc (.lst (ys++[y]))))
theorem iI {js:List Nat} {ta:TA} {te:TE} {σ:St} {H:Hp} {Q:VK}:gq js (DK ta) te σ H Q=ta σ H (CK js te σ Q):=rfl
theorem CK.of {js:List Nat} {te:TE} {σ:St} {H:Hp} {Q:VK} {n:Nat} {i:Int} (ei:i=n) (hn:n<=1000000)
  (h:∀acc,H acc=none->∃Pv:Nat->List V->Hp->Prop,Pv 0 [] (upd H acc (.lst [])) /\
   (∀i ys H',i<n->Pv i ys H'->te (some (.int (0+(i:Nat)))::bO js σ) H' fun y cZ=>cZ acc=some (.lst ys)/\ys.length<sizeLine/\Pv (i+1) (ys++[y]) (upd cZ acc (.lst (ys++[y])))) /\
   ∀ys H',Pv n ys H'->Q (.ref acc) H'):CK js te σ Q [.int i] H:=by
 subst ei
 have:=WY (ta:=fun _ H R=>R [.int n] H) (σ:=σ) (H:=H) (Q:=Q) (js:=js) (te:=te) (n:=n) (fun R hR=>hR) hn h
 exact this
def Gs (mg:Str->Option Value) (x:Str) (i:Str):Prop:=∃t,mg x=some (.str i t)
theorem rm {X:Cx} {x:Str} {i:Str} {pos:Pos} (h:Gs X.mg x i) (hg:Gl X x:=by rfl) (hd:(x==("__debug__" : Str))=false:=by decide):PE X (.Name x pos) (tC (.str i)):=by
 obtain⟨t,ht⟩:=h
 exact zR hg ht ⟨t,rfl⟩ hd
def dJ (b:Int):List Int->Int
 | []=>b
 | x::r=>dJ (if x>b then x else b) r
section
variable {prog:Program} {w:World} {A:Around} {R:Result->Shared->Prop} {It:Addr} {fp wr:List Addr} {n:Nat} {Pv:Nat->Value->Prop} {St:Nat->Heap->Prop}
theorem OJ {ns:List Int} (W:Walks prog w A.in1 It fp wr n Pv St) (hn:n=ns.length) (hv:∀i v,Pv i v->∃t,v=.int (ns.getD i 0) t) (C:Addr) (nf:C∉fp) (d:Value):∀(m j:Nat) (z:Shared) (best:Int) (tb:Tok) (c:Nat),ns.length-j=m->j<=ns.length->St j z.heap ->
  z.heap.get? C=some ⟨.type "list",none,.seq #[.int best tb,.int best tb] c,#[]⟩ ->
  (∀t h' tk,(∀b o,b∉wr->b≠C->z.heap.get? b=some o->h'.get? b=some o)->R (.ok (.ret (.int (dJ best (ns.drop j)) t))) { z with heap:=h',toks:=tk }) ->
  codeAny (model prog w) A (.builtin "max.loop" ⟨[.ref It,.none,.ref C],[("default",d)]⟩) R z:=by
 subst hn
 have nw:C∉wr:=fun q=>nf (W.sub _ q)
 have nm:(toString "max" ++ toString ".loop" : String) = "max.loop" := by decide
 intro m
 induction m with
 | zero=>
  intro j z best tb c hm hj st hC fin
  have e:j=ns.length:=by omega
  subst e
  refine codeAny_builtin PySem.F.entry_max_loop ?_
  rw[Around.under_plainId PySem.F.plain_max_loop _]
  show wpAny _ A.in1 (seqItems? (.ref C) >>= _) _ _ z
  refine aN (oU hC rfl ?_)
  show wpAny _ A.in1 (tryCatch (pyNext (.ref It)) _ >>= _) _ _ z
  refine aN (Fp (W.done z _ _ st fun h' tk kp=>?_))
  refine aN (wpAny_updateSeq (kp C _ nw hC) rfl (aN (uX (bK ?_))))
  rw[Ce] at fin
  exact fin tb _ tk fun b o h1 h2 h3=>(sW _ _ (Ne.symm h2)).trans (kp b o h1 h3)
 | succ m ih=>
  intro j z best tb c hm hj st hC fin
  have lt:j<ns.length:=by omega
  refine codeAny_builtin PySem.F.entry_max_loop ?_
  rw[Around.under_plainId PySem.F.plain_max_loop _]
  show wpAny _ A.in1 (seqItems? (.ref C) >>= _) _ _ z
  refine aN (oU hC rfl ?_)
  show wpAny _ A.in1 (tryCatch (pyNext (.ref It)) _ >>= _) _ _ z
  refine aN (Fp (W.item j z _ _ lt st fun v h' tk hP st' kp=>?_))
  obtain⟨t,rfl⟩:=hv j v hP
  have hC':=kp C _ nw hC
  show wpAny _ A.in1 (tryCatch (holding [_,_] (richCompare .Gt _ (.int best tb) >>= _)) _ >>= _) _ _ _
  refine aN (Fp (oO (aN (richCompare_gives (op:=.Gt) (typeIs_int _ _ t) (typeIs_int _ _ tb) PySem.F.slot_int_gt PySem.F.entry_int_gt (PySem.F.args_int_gt_2 _ _) (gives_int_gt _ _ t tb) (fun x=>nomatch x) ?_))))
  refine aN (oO (JZ (aN (uX (bK ?_)))))
  have dr:ns.drop j=ns.getD j 0::ns.drop (j+1):=by
   rw[Cu lt,iB,eV lt]; rfl
  rw[dr] at fin
  by_cases hb:ns.getD j 0>best
  ·have e1:dJ best (ns.getD j 0::ns.drop (j+1))=dJ (ns.getD j 0) (ns.drop (j+1)):=by rw[dJ,aM hb]
   rw[e1] at fin
   rw[iC hb]
   simp only[if_true]
   refine aN (wpAny_updateSeq hC' rfl (aN (uX ?_)))
   rw[nm]
   refine bK ⟨plainId_quiet PySem.F.plain_max_loop _,ih (j+1) _ _ t _ (by omega) lt (W.frame _ _ _ st' fun b hb o e=>?_) (w6 _ hC' rfl) fun t2 h2 tk2 k2=>?_⟩
   ·exact(sW _ _ (fun q:C=b=>nf (by rw[q]; exact hb))).trans e
   ·exact fin t2 h2 tk2 fun b o h1 h3 e=>k2 b o h1 h3 ((sW _ _ (Ne.symm h3)).trans (kp b o h1 e))
  ·have e1:dJ best (ns.getD j 0::ns.drop (j+1))=dJ best (ns.drop (j+1)):=by rw[dJ,aK hb]
   rw[e1] at fin
   rw[fH hb]
   simp only[jn,if_false]
   refine aN (uX ?_)
   rw[nm]
   refine bK ⟨plainId_quiet PySem.F.plain_max_loop _,ih (j+1) _ best tb c (by omega) lt st' hC' fun t2 h2 tk2 k2=>?_⟩
   exact fin t2 h2 tk2 fun b o h1 h3 e=>k2 b o h1 h3 (kp b o h1 e)
theorem Kv {ns:List Int} (W:Walks prog w A.in1 It fp wr n Pv St) (hn:n=ns.length) (hv:∀i v,Pv i v->∃t,v=.int (ns.getD i 0) t) (C:Addr) (nf:C∉fp) (d:Value) (z:Shared) (c:Nat) (st:St 0 z.heap)
  (hC:z.heap.get? C=some ⟨.type "list",none,.seq #[] c,#[]⟩)
  (f0:ns=[]->∀h' tk,(∀b o,b∉wr->b≠C->z.heap.get? b=some o->h'.get? b=some o)->R (.ok (.ret d)) { z with heap:=h',toks:=tk })
  (f1:∀x r,ns=x::r->∀t h' tk,(∀b o,b∉wr->b≠C->z.heap.get? b=some o->h'.get? b=some o)->R (.ok (.ret (.int (dJ x r) t))) { z with heap:=h',toks:=tk }) :
  codeAny (model prog w) A (.builtin "max.loop" ⟨[.ref It,.none,.ref C],[("default",d)]⟩) R z:=by
 have nw:C∉wr:=fun q=>nf (W.sub _ q)
 have nm:(toString "max" ++ toString ".loop" : String) = "max.loop" := by decide
 refine codeAny_builtin PySem.F.entry_max_loop ?_
 rw[Around.under_plainId PySem.F.plain_max_loop _]
 show wpAny _ A.in1 (seqItems? (.ref C) >>= _) _ _ z
 refine aN (oU hC rfl ?_)
 show wpAny _ A.in1 (tryCatch (pyNext (.ref It)) _ >>= _) _ _ z
 cases ns with
 | nil=>
  subst hn
  refine aN (Fp (W.done z _ _ st fun h' tk kp=>?_))
  show wpAny _ A.in1 (rule _ >>= _) _ _ _
  exact aN (uQ (bK (f0 rfl h' tk fun b o h1 _ e=>kp b o h1 e)))
 | cons x r=>
  refine aN (Fp (W.item 0 z _ _ (by rw[hn]; exact Nat.succ_pos _) st fun v h' tk hP st' kp=>?_))
  obtain⟨t,e⟩:=hv 0 v hP
  have e:v=.int x t:=e
  subst e
  have hC':=kp C _ nw hC
  show wpAny _ A.in1 (updateSeq C (fun _=>#[Value.int x t,Value.int x t]) >>= _) _ _ _
  refine aN (wpAny_updateSeq hC' rfl ?_)
  rw[nm]
  refine bK ⟨plainId_quiet PySem.F.plain_max_loop _,OJ W hn hv C nf d _ 1 _ x t _ rfl (by simp) (W.frame _ _ _ st' fun b hb o e=>?_) (w6 _ hC' rfl) fun t2 h2 tk2 k2=>?_⟩
  ·exact(sW _ _ (fun q:C=b=>nf (by rw[q]; exact hb))).trans e
  ·exact f1 x r rfl t2 h2 tk2 fun b o h1 h3 e=>k2 b o h1 h3 ((sW _ _ (Ne.symm h3)).trans (kp b o h1 e))
end
theorem Li (a v:Value):argsOk "max" ⟨[a],[("default",v)]⟩:=by unfold argsOk; kernel_rfl
section
variable {prog:Program} {w:World} {A:Around} {E:Value->Shared->Prop} {s:Shared}
theorem Le {l:Addr} {its:List Value} {ns:List Int} {d:Value} {Q:Value->Shared->Prop} (hh:A.handled=none) (hl:s.heap.IsList l its.toArray) (hi:∀i v,its[i]?=some v->∃t,v=Value.int (ns.getD i 0) t) (hlen:its.length=ns.length)
  (h0:ns=[]->∀h' tk,(∀b o,s.heap.get? b=some o->h'.get? b=some o)->Q d { s with heap:=h',toks:=tk })
  (h1:∀b r,ns=b::r->∀t h' tk,(∀b o,s.heap.get? b=some o->h'.get? b=some o)->Q (Value.int (dJ b r) t) { s with heap:=h',toks:=tk }) :
  wpAny (model prog w) A (call (.builtin "max") [.ref l] [("default",d)]) Q E s:=by
 have nm:(toString "max" ++ toString ".loop" : String) = "max.loop" := by decide
 have lt:l<s.heap.objs.size:=by obtain⟨_,e,_⟩:=hl; exact b_ e
 refine kmk_tree PySem.F.kind_max PySem.F.plain_max PySem.F.entry_max (Li _ _) ?_
 show wpAny _ A.in1 (Builtin.Builtins.bindParams "max" ["key","default"] 0 ⟨[],[("default",d)]⟩ >>= _) _ _ s
 refine aN (sU (show Builtin.Builtins.bindParams "max" ["key","default"] 0 ⟨[],[("default",d)]⟩=pure [none,some d] from rfl) ?_)
 refine aN (bK ?_)
 refine aN (Hw hl ?_)
 refine aN (q_ ?_)
 rw[nm]
 have W:=Walks.list (prog:=prog) (w:=w) (A:=A.in1) hh s.heap.objs.size l (gk lt) its.toArray
 generalize eh:s.heap.push { cls:=.type "list_iterator",data:=.fields #[.ref l,.int 0 0] }=h1'
 have sz:h1'.objs.size=s.heap.objs.size+1:=by rw[<- eh,mK]
 have k1:∀b o,s.heap.get? b=some o->h1'.get? b=some o:=fun b o e=>by rw[<- eh]; exact gb _ e
 have hit:h1'.IsListIter s.heap.objs.size l 0:=by rw[<- eh]; exact⟨_,dX _ rfl,rfl,rfl⟩
 have hl1:h1'.IsList l its.toArray:=by rw[<- eh]; exact hl.push _
 have nf:h1'.objs.size∉[s.heap.objs.size,l]:=fun q=>by
  rcases b8.mp q with e | q
  ·rw[sz] at e; exact Nat.succ_ne_self _ e
  ·have e:=fj.mp q; rw[sz] at e; rw[<- e] at lt; exact sV _ (Cy (CP _) lt)
 have ol:∀{h':Heap},(∀b o,b∉[s.heap.objs.size]->b≠h1'.objs.size->(h1'.push { cls:=.type "list",data:=.seq #[] 0 }).get? b=some o->h'.get? b=some o)->∀b o,s.heap.get? b=some o->h'.get? b=some o:=fun k b o e=>by
  have lb:=b_ e
  refine k b o (fun q=>?_) (fun q=>?_) (gb _ (k1 b o e))
  ·rw[fj.mp q] at lb; exact sV _ lb
  ·rw[q,sz] at lb; exact sV _ (Cy (CP _) lb)
 refine bK ⟨plainId_quiet PySem.F.plain_max_loop _,Kv (ns:=ns) W (by rw[fJ,hlen]) (fun i v e=>hi i v (by simpa using e)) h1'.objs.size nf d _ _ ?_ (dX _ rfl) (fun e h' tk k=>h0 e h' tk (ol k)) (fun x r e t h' tk k=>h1 x r e t h' tk (ol k))⟩
 exact W.frame _ _ _ (show h1'.IsListIter s.heap.objs.size l 0/\h1'.IsList l its.toArray from⟨hit,hl1⟩) fun b _ o e=>gb _ e
end
section
variable {X:Cx}
def Um (t:TA) (te:TE):TE:=fun σ H Q=>t σ H fun vs H1=>te σ H1 fun y H2=>∃(p:Addr) (ns:List Int),vs=[.ref p]/\H2 p=some (.lst (ns.map V.int))/\(ns=[]->Q y H2)/\∀b r,ns=b::r->Q (.int (dJ b r)) H2
theorem zq {ns:List Int}:∀{us:List Value},Vals (ns.map V.int) us->∀i v,us[i]?=some v->∃t,v=Value.int (ns.getD i 0) t:=by
 induction ns with
 | nil=>intro us r i v e; cases r; simp at e
 | cons n ns ih=>
  intro us r i v e
  cases r with
  | cons r1 r2=>
   cases i with
   | zero=>
    obtain⟨t,rfl⟩:=(r1:∃t,_=Value.int n t)
    simp at e
    exact⟨t,e.symm⟩
   | succ i=>simpa using ih r2 i v (by simpa using e)
theorem HX {e e2:Expr} {t:TA} {te:TE} {p pos Sy:Pos} (hc:X.calm=true) (hm:X.mg "max" = none) (ha:PA X [e] t) (hk:PE X e2 te) (hg:Gl X "max" := by rfl) (h1:cG e=true:=by rfl) :
  PE X (.Call (.Name "max" p) [e] [⟨some "default",e2,Sy⟩] pos) (Um t te):=by
 refine .mk ?_
 intro pins s σ H Q I h
 refine uW (lA I hg hm lF ?_ (by decide) (by decide))
 refine callWith_kw ?_ ?_ ?_ ?_ ?_
 ·refine cB (ha pos pins s σ H _ I h) fun us s1 qx=>?_
  obtain⟨vs,H1,I1,r,q⟩:=qx
  refine cB ((RK hk V2:PK X [⟨some "default",e2,Sy⟩] _) pos pins s1 σ H1 (fun ys H2=>∃y,ys=[y]/\(∃(p:Addr) (ns:List Int),vs=[.ref p]/\H2 p=some (.lst (ns.map V.int))/\(ns=[]->Q y H2)/\∀b r,ns=b::r->Q (.int (dJ b r)) H2)) I1 ?_) fun ws s2 ⟨zs,H2,I2,rz,q2⟩=>?_
  ·show te σ H1 (fun x H2=>∃y,[x]=[y]/\_)
   have fe:(fun(x:V) (H2:Hp)=>∃y,[x]=[y]/\(∃(p:Addr) (ns:List Int),vs=[.ref p]/\H2 p=some (.lst (ns.map V.int))/\(ns=[]->Q y H2)/\∀b r,ns=b::r->Q (.int (dJ b r)) H2))=fun y H2=>∃(p:Addr) (ns:List Int),vs=[.ref p]/\H2 p=some (.lst (ns.map V.int))/\(ns=[]->Q y H2)/\∀b r,ns=b::r->Q (.int (dJ b r)) H2:=by
    funext x H2
    refine propext ⟨?_,fun z=>⟨x,rfl,z⟩⟩
    rintro⟨y,ey,z⟩
    cases ey
    exact z
   rw[fe]
   exact q
  ·obtain⟨y,rfl,l,ns,rfl,hl,q0,q1⟩:=q2
   obtain⟨u,rfl,ru⟩:=r.one
   cases ru
   obtain⟨v,rfl,rv⟩:=rz.one
   obtain⟨_,its,n,rvs,eo⟩:=I2.hok l _ hl
   have hlen:=rvs.length
   rw[bR] at hlen
   refine Le (ns:=ns) (I2.ok.hd hc) (show s2.heap.IsList l its.toArray from⟨_,eo,rfl,n,rfl⟩) (zq rvs) hlen.symm (fun e h' tk k=>⟨y,H2,I2.kept (t':=tk) k,rv,q0 e⟩) (fun b r e t h' tk k=>⟨.int (dJ b r),H2,I2.kept (t':=tk) k,⟨t,rfl⟩,q1 b r e⟩)
 ·rw[cP h1]; rfl
 ·exact cN (es:=[e]) (by simp[h1])
 ·rfl
 ·rfl
end
def eY (t:Str):Nat:=if(("come" : Str)==t)=true then 0 else if(("done" : Str)==t)=true then 1 else 2
def T_:List V:=[.str "come",.str "done",.str "wait"]
def YK (K:PySem.W.Frag):V->List V->Hp->VK->Prop:=fun x xs H Q=>∃(p:Addr) (t:Str),x=.ref p/\cA K H p T_/\xs=[.str t]/\t∈(["come","done","wait"]:List Str)/\Q (.int (eY t)) H
theorem ud {x y z:V} {us:List Value} (h:Vals [x,y,z] us):∃u v q,us=[u,v,q]/\RelV x u/\RelV y v/\RelV z q:=by
 obtain⟨u,r,rfl,h1,h⟩:=h.un
 obtain⟨v,q,rfl,h2,h3⟩:=h.two
 exact⟨u,v,q,rfl,h1,h2,h3⟩
theorem SN {t:Str} (h:t∈(["come","done","wait"]:List Str)) (h0:(("come" : Str)==t)=false) (h1:(("done" : Str)==t)=false):(("wait" : Str)==t)=true:=by
 simp only[b8,qd,or_false] at h
 rcases h with rfl | rfl | rfl
 ·revert h0; decide +kernel
 ·revert h1; decide +kernel
 ·decide +kernel
section
variable {X:Cx}
theorem Br {prog:Program} {w:World} {A:Around} {E:Value->Shared->Prop} {s:Shared} {p:Addr} {a b c t:Str} {k0 k1 k2 k3:Tok} {Q:Value->Shared->Prop} (ht:IsTup s.heap p #[.str a k0,.str b k1,.str c k2]) (hl:(a==t)=false->(b==t)=false->(c==t)=true)
  (q:∀tk,Q (Value.int (if(a==t)=true then 0 else if(b==t)=true then 1 else 2) tk) { s with toks:=s.toks+1 }):wpAny (model prog w) A (call (.builtin "tuple.index") [.ref p,.str t k3]) Q E s:=by
 refine uT PySem.F.slot_tuple_index ht.typeIs PySem.F.entry_tuple_index ?_ (PySem.F.args_tuple_index_2 _ _)
 show wpAny _ A.in1 (Builtin.Tuple.tupleItemsOf (.ref p) >>= _) _ _ s
 refine aN (tupleItemsOf_ ht ?_)
 show wpAny _ _ ((pure 0:Sem Nat) >>= _) _ _ s
 refine aN (bK ?_)
 show wpAny _ _ ((pure 3:Sem Nat) >>= _) _ _ s
 refine aN (bK ?_)
 show wpAny _ _ (forIn [0:3] _ _ >>= _) _ _ s
 rw[Std.Legacy.Range.forIn_eq_forIn_range']
 have e:List.range' [0:3].start [0:3].size [0:3].step=[0,1,2]:=rfl
 rw[e,yr]
 have mk:∀(i:Int) {R:PySem.Fin->Shared->Prop},(∀tk,R (.done (.ret (.int i tk))) { s with toks:=s.toks+1 })->wpAny (model prog w) A.in1 (retInt i) R E s:=fun i {R} h=>by
  unfold retInt
  refine aN (wpAny_mkInt (bK (h _)))
 have eq:∀(z:Str) (k:Tok),SeqAt.EqAt A.in1 s (.str z k) (.str t k3) (z==t):=fun z k=>SeqAt.EqAt.str_str z k t k3
 cases e0:(a==t) with
 | true=>
  rw[e0] at q
  refine aN (aN (aN (eq a k0 _ _ _ _ ?_)))
  rw[e0,aM rfl]
  refine aN (mk 0 fun tk=>bK (bK (bK ⟨_,rfl,q tk⟩)))
 | false=>
  rw[e0] at q
  refine aN (aN (aN (eq a k0 _ _ _ _ ?_)))
  rw[e0,aK (by decide)]
  refine bK ?_
  show wpAny _ _ (forIn [1,2] _ _) _ _ s
  rw[yr]
  cases e1:(b==t) with
  | true=>
   rw[e1] at q
   refine aN (aN (eq b k1 _ _ _ _ ?_))
   rw[e1,aM rfl]
   refine aN (mk 1 fun tk=>bK (bK (bK ⟨_,rfl,q tk⟩)))
  | false=>
   rw[e1] at q
   refine aN (aN (eq b k1 _ _ _ _ ?_))
   rw[e1,aK (by decide)]
   refine bK ?_
   show wpAny _ _ (forIn [2] _ _) _ _ s
   rw[yr]
   refine aN (aN (eq c k2 _ _ _ _ ?_))
   rw[hl e0 e1,aM rfl]
   refine aN (mk 2 fun tk=>bK (bK (bK ⟨_,rfl,q tk⟩)))
theorem Kw {K:PySem.W.Frag} (hK:X.K=K):MtR X "tuple.index" (YK K):=by
 subst hK
 intro pins s σ H x xs v us Q I rx rv h
 obtain⟨p,t,rfl,hp,rfl,ht,q⟩:=h
 cases rx
 obtain⟨u,rfl,tk,rfl⟩:=rv.one
 obtain⟨its,r,pt,_⟩:=I.tuple hp
 obtain⟨u0,u1,u2,rfl,⟨k0,rfl⟩,⟨k1,rfl⟩,⟨k2,rfl⟩⟩:=ud r
 refine Br pt (SN ht) fun tk'=>⟨.int (eY t),H,I.tok _,⟨tk',?_⟩,q⟩
 unfold eY
 split
 ·rfl
 ·split <;> rfl
def GT2 (K:PySem.W.Frag) (mg:Str->Option Value) (x:Str) (W:List V):Prop:=∃a,mg x=some (.ref a)/\(∃o,K.lookup a=some o/\o.cls=.type "tuple" /\ o.dict=none)/\∀H,cA K H a W
def Vv (K:PySem.W.Frag) (W:List V):TE:=fun _ H Q=>∀a,(∃o,K.lookup a=some o/\o.cls=.type "tuple" /\ o.dict=none)->(∀H',cA K H' a W)->Q (.ref a) H
theorem HS {K:PySem.W.Frag} {x:Str} {W:List V} {pos:Pos} (hK:X.K=K) (h:GT2 K X.mg x W) (hg:Gl X x:=by rfl) (hd:(x==("__debug__" : Str))=false:=by decide):PE X (.Name x pos) (Vv K W):=by
 obtain⟨a,ha,ho,hs⟩:=h
 refine .mk ?_
 intro pins s σ H Q I q
 exact zR (v:=.ref a) hg ha rfl hd pins s σ H Q I (q a ho hs)
end
section
variable {X:Cx} {pos:Pos}
def Uj (i j l:Nat) (ta:TA):TS:=fun D σ H=>ta σ H fun vs H1=>∃v w z,vs=[v,w,z]/\D.nx (((σ.set l (some z)).set j (some w)).set i (some v)) H1
theorem HQ {i j l:Nat} {x y z:Str} {a b c:Expr} {ta:TA} {px py pz pt:Pos} {kt k2 VV} (hc:X.calm=true) (hN:X.N.Nodup) (hi:X.N[i]?=some x) (hj:X.N[j]?=some y) (hl:X.N[l]?=some z)
  (hx:X.env.scope.names.lookup x=some .local) (hy:X.env.scope.names.lookup y=some .local) (hz:X.env.scope.names.lookup z=some .local) (ha:PA X [a,b,c] ta)
  (hw:swappedStores [.Tuple [.Name x px,.Name y py,.Name z pz] kt pt] (.Tuple [a,b,c] k2 VV) X.env=pure (some [x,y,z]))
  (hs:swapsWithSole [.Tuple [.Name x px,.Name y py,.Name z pz] kt pt] (.Tuple [a,b,c] k2 VV) pos.line X.env=pure false:=by rfl) :
  PS X (.Assign [.Tuple [.Name x px,.Name y py,.Name z pz] kt pt] (.Tuple [a,b,c] k2 VV) pos) (Uj i j l ta):=by
 refine .mk ?_
 intro pins s σ H D I h
 rw[exec_Assign_arm,hs]
 refine aN (wV (aN (bK ?_)))
 rw[aK (by decide)]
 refine aN (Tuple_ (cB (ha _ pins s σ H _ I h) fun us s1 qx=>?_))
 obtain⟨vs,H1,I1,r1,v,w,t,e1,q1⟩:=qx
 subst e1
 obtain⟨u1,u2,u3,rfl,rv,Rj,rt⟩:=ud r1
 refine q_ ?_ (by show 3<=sizeLine; decide)
 have I2:Inv X pins σ H1 { s1 with heap:=s1.heap.push { cls:=.type "tuple",data:=.seq [u1,u2,u3].toArray } }:=I1.kept (t':=s1.toks) fun b o e=>gb _ e
 rw[hw]
 refine aN (bK ?_)
 show wpAny (model X.prog X.w) X.A (do rule "assign.swapped-stores"; let items <- unpackItems (.ref s1.heap.objs.size) 3 none; assignInOrder [fun v=>bindName X.env z v,fun v=>bindName X.env y v,fun v=>bindName X.env x v] items.reverse; pure Flow.next) _ _ _
 refine aN (uQ (aN (unpackItems_tuple (items:=#[u1,u2,u3]) (I.ok.hd hc) (IsTup.new s1.heap _) fun h' hx'=>?_)))
 have I3:=I2.kept (h':=h') (t':=s1.toks) fun b o e=>hx' b o (gk (b_ e)) e
 show wpAny _ _ (assignInOrder [fun v=>bindName X.env z v,fun v=>bindName X.env y v,fun v=>bindName X.env x v] [u3,u2,u1] >>= fun _=>pure Flow.next) _ _ _
 refine aN (assignInOrder_cons (CJ (fU I3 hN hl (.inl hz) rt (fun s2 I4=>?_) (.inr hz))))
 refine assignInOrder_cons (CJ (fU I4 hN hj (.inl hy) Rj (fun s3 I5=>?_) (.inr hy)))
 exact assignInOrder_cons (CJ (fU I5 hN hi (.inl hx) rv (fun s4 I6=>assignInOrder_nil (bK ⟨_,H1,I6,q1⟩)) (.inr hx)))
end
theorem Inv.Q4 {X:Cx} {pins:List (Addr×Obj)} {σ:St} {H:Hp} {s:Shared} {h':Heap} {t':Nat} {e it:Addr} (I:Inv X pins σ H s) (k:∀b o,b≠e->b≠it->s.heap.get? b=some o->h'.get? b=some o) (fe:ie X pins H e) (fi:ie X pins H it) :
  Inv X pins σ H { s with heap:=h',toks:=t' }:=by
 have k2:∀b o,b∉[e,it]->s.heap.get? b=some o->h'.get? b=some o:=fun b o hb q=>k b o (fun z=>hb (by simp[z])) (fun z=>hb (by simp[z])) q
 have fp:∀b∈[e,it],ie X pins H b:=fun b hb=>by
  rcases b8.mp hb with z | z
  ·rw[z]; exact fe
  ·rw[fj.mp z]; exact fi
 have ni:∀b u,H b=some u->b∉[e,it]:=fun b u q hb=>by rw[(fp b hb).1] at q; cases q
 refine I.step (g':=s.gens) (d':=s.drawn) (ch:=[e,it]) (fun b hb=>?_) (fun b o _ _ hc q _=>k2 b o hc q) (fun b o _ _ hc q _=>⟨o.slots,k2 b o hc q⟩) (fun _ _ _ _ n=>n) (fun b o hc q=>⟨o,k2 b o hc q⟩) (fun _ _ q=>q) (fun _ _ _ q=>q)
  (fun b ps q=>⟨#[],by rw[q]; simp⟩) (fun m hm=>?_) (fun b u q=>?_) I.bare
 ·obtain⟨_,f1,_,f3,f4,f5⟩:=fp b hb
  exact⟨f3,f1,f4,f5⟩
 ·obtain⟨o,es,ep,ho,r⟩:=hm
  refine⟨o,es,ep,k2 _ o (fun hb=>(fp _ hb).2.1 rfl) ho,r⟩
 ·refine(I.hok b u q).stay (fun c v hc z=>k2 c v ?_ z) (fun _ z=>z) fun _ _ z=>z
  rcases hc with z | z
  ·rw[z]; exact ni b u q
  ·exact ni c _ z
section
variable {X:Cx}
end
theorem yF:∀(l:List Int) (b x:Int),dJ b (l++[x])=if x>dJ b l then x else dJ b l
 | [],b,x=>rfl
 | y::l,b,x=>by
  show dJ (if y>b then y else b) (l++[x])=_
  rw[yF l]; rfl
theorem Jp (val:Nat->Int):∀k,val (argBest (fun i j=>decide (val i>val j)) k)=dJ (val 0) ((List.range k).map fun i=>val (i+1))
 | 0=>rfl
 | k+1=>by
  have ih:=Jp val k
  rw[List.range_succ,jm]
  show val (if decide (val (k+1)>val (argBest _ k))=true then k+1 else argBest _ k)=dJ (val 0) (_++[val (k+1)])
  rw[yF,<- ih]
  by_cases h:val (k+1)>val (argBest (fun i j=>decide (val i>val j)) k)
  ·rw[aM (iC h),aM h]
  ·rw[aK (by rw[fH h]; decide),aK h]
def pairOf:Value->Int×Tok
 | .int i t=>(i,t)
 | _=>(0,0)
theorem pq:∀{ns:List Int} {us:List Value},Vals (ns.map V.int) us->us.toArray=intItems (us.map pairOf).toArray/\us.map (fun u=>(pairOf u).1)=ns
 | [],_,.nil=>⟨by simp[intItems],rfl⟩
 | n::ns,_,.cons r t=>by
  obtain⟨tk,rfl⟩:=(r:∃tk,_=Value.int n tk)
  obtain⟨h1,h2⟩:=pq t
  refine⟨?_,by rw[kW,h2]; rfl⟩
  have h1':=jl Array.toList h1
  unfold intItems at h1' ⊢
  apply Array.ext'
  simp at h1' ⊢
  exact⟨⟨rfl,rfl⟩,h1'⟩
section
variable {X:Cx}
theorem yR (hc:X.calm=true):dI X (.builtin "max") (fun vs H Q=>∃(p:Addr) (b:Int) (r:List Int),vs=[.ref p]/\H p=some (.lst ((b::r).map V.int))/\Q (.int (dJ b r)) H):=by
 refine .mk ?_
 intro pins s σ H vs us Q I r h
 obtain⟨p,b,rs,rfl,hp,q⟩:=h
 obtain⟨u,rfl,ru⟩:=r.one
 cases ru
 obtain⟨_,its,n,rv,e⟩:=I.hok p _ hp
 obtain⟨e1,e2⟩:=pq rv
 have hl:s.heap.IsList p (intItems (its.map pairOf).toArray):=by rw[<- e1]; exact⟨_,e,rfl,n,rfl⟩
 have hlen:=rv.length
 rw[bR] at hlen
 have na:∀i,numAt (its.map pairOf).toArray i=(b::rs).getD i 0:=fun i=>by
  unfold numAt
  rw[<- e2,iB]
  simp
  rfl
 refine max_intList (I.ok.hd hc) hl (by simp; rw[<- hlen]; simp) fun v h' tk hv k=>?_
 obtain⟨t,rfl⟩:=intItems_at hv
 refine⟨.int (dJ b rs),H,I.kept (t':=tk) k,⟨t,?_⟩,q⟩
 have:=Jp (numAt (its.map pairOf).toArray) ((its.map pairOf).toArray.size-1)
 rw[this]
 congr 1
 have sz:(its.map pairOf).toArray.size-1=rs.length:=by simp; rw[<- hlen]; simp
 rw[sz,na 0]
 show dJ b _=_
 congr 1
 apply Hs
 ·simp
 ·intro i h1 h2
  simp at h1 h2
  rw[List.getElem_map,Hy,na (i+1)]
  simp[iB,h2]
theorem vo {K:PySem.W.Frag} {o e:Expr} {es:List Expr} {to:TE} {t:TA} {name:Str} {apos cpos:Pos} {T id:String} {r:V->List V->Hp->VK->Prop} (hK:X.K=K) (pa:PlainAttrs T) (slot:Slot T name id) (hty:typeOf (.builtin id)=pure (.type "method_descriptor")) (hm:MtR X id r) (ho:PE X o to) (ha:PA X (e::es) t)
  (hbase:attributeBase o name X.env (eval o X.env)=eval o X.env:=by rfl)
  (hfew:((backTo cpos (starEach (e::es) X.env)).all (fun x=>!x.1)&&(backToKw cpos (keywordEach [] X.env)).all (fun x=>x.1.isSome)&&decide ((e::es).length+([]:List Keyword).length+(if([]:List Keyword).isEmpty then 0 else 1)<30))=true:=by rfl)
  (hline:(apos.endLine==cpos.line)=true:=by rfl) (hs:starEach (e::es) X.env=(false,eval e X.env)::starEach es X.env:=by rfl) (hplain:(backTo cpos (starEach es X.env)).any (·.1)=false:=by rfl):PE X (.Call (.Attribute o name apos) (e::es) [] cpos) (tBM K T r to t):=by
 subst hK
 exact Y5 pa slot hty hm ho ha hbase hfew hline hs hplain
end
theorem EY:isSubtype (.type "range_iterator") (.type "reversed")=pure false:=by rw[isSubtype_type]; kernel_rfl
section
variable {prog:Program} {w:World} {A:Around} {E:Value->Shared->Prop} {s:Shared}
def uO (n:Int):Obj:={ cls:=.type "range_iterator",data:=.fields #[rawInt (n-1),rawInt n,rawInt (-1)] }
theorem wz {r:Addr} {n:Int} {t u v:Tok} {Q:Value->Shared->Prop} (hr:IsRange s.heap r 0 n 1 t u v) (h0:0<=n) (h1:n<2 ^ 62) (h:Q (.ref s.heap.objs.size) { s with heap:=s.heap.push (uO n) }) :
  wpAny (model prog w) A (call (.builtin "range.__reversed__") [.ref r]) Q E s:=by
 have hT:s.TypeIs (.ref r) "range" := ⟨_,hr,rfl⟩
 refine uT PySem.F.slot_range_reversed hT PySem.F.entry_range_reversed ?_ (PySem.F.args_range_reversed_1 _)
 unfold Builtin.«range.__reversed__»
 refine aN (sU (a:=Value.ref r) rfl ?_)
 have rf:∀{R:Int×Int×Int->Shared->Prop},R (0,n,1) s->wpAny (model prog w) A.in1 (Builtin.Range.rangeFields (.ref r)) R E s:=fun {R} hR=>by
  unfold Builtin.Range.rangeFields
  refine aN (iZ hr rfl (x:=.int 0 t) rfl (aN (sU (a:=some (0:Int)) rfl ?_)))
  refine aN (iZ hr rfl (x:=.int n u) rfl (aN (sU (a:=some n) rfl ?_)))
  exact aN (iZ hr rfl (x:=.int 1 v) rfl (aN (sU (a:=some (1:Int)) rfl (bK hR))))
 refine aN (rf ?_)
 dsimp only
 have sz:Builtin.Range.rangeSize 0 n 1=n:=by rw[rangeSize_one]; split <;> omega
 rw[sz]
 have sm:(Builtin.Range.rangeFitsLong 0&&Builtin.Range.rangeFitsLong n&&Builtin.Range.rangeFitsLong 1&&Builtin.Range.rangeFitsLong (-1)&&Builtin.Range.rangeFitsLong (0-1)&&Builtin.Range.rangeFitsLong n)=true:=by
  have:Builtin.Range.rangeFitsLong n=true:=by simp only[Builtin.Range.rangeFitsLong,wW,decide_eq_true_eq]; omega
  rw[this]; decide
 rw[sm]
 simp only[zM,jn,if_false,if_true]
 have e1:(0+(n-1)*1:Int)=n-1:=by omega
 rw[e1]
 exact aN (q_ (bK ⟨_,rfl,h⟩))
theorem wg {r:Addr} {n:Int} {t u v:Tok} {Q:Value->Shared->Prop} (hr:IsRange s.heap r 0 n 1 t u v) (h0:0<=n) (h1:n<2 ^ 62) (h:Q (.ref s.heap.objs.size) { s with heap:=s.heap.push (uO n) }) :
  codeAny (model prog w) A (.call (.builtin "reversed.__new__") ⟨[.type "reversed",.ref r],[]⟩) (wants Q E) s:=by
 have hT:s.TypeIs (.ref r) "range" := ⟨_,hr,rfl⟩
 refine codeAny_of_tree ?_
 show wpAny _ A.in1 (do checkBuiltinCall "reversed.__new__" ⟨[.type "reversed",.ref r],[]⟩; again (.builtin "reversed.__new__" ⟨[.type "reversed",.ref r],[]⟩)) _ _ s
 refine aN (sU (F.newCall_reversed_1 (.ref r)) (bK ⟨plainId_quiet F.plain_reversed_new _,codeAny_builtin F.entry_reversed_new ?_⟩))
 rw[Around.under_plainId F.plain_reversed_new _]
 unfold Builtin.«reversed.__new__»
 refine aN (sU (newClass_reversed (.ref r)) ?_); (try dsimp only)
 refine aN (sU (a:=()) rfl (aN (sU (a:=()) rfl ?_)))
 refine aN (yx hT PySem.F.slot_range_reversed.lookup ?_); (try dsimp only)
 refine aN (sU (PySem.F.slot_range_reversed.bind _) ?_); (try dsimp only)
 rw[aK (show ¬((Value.builtin "range.__reversed__" == Value.none)=true) from mO)]
 refine aN (uQ (aN (m:=runValue (.call (.builtin "range.__reversed__") ⟨[.ref r],[]⟩)) (show wpAny _ _ (call (.builtin "range.__reversed__") [.ref r]) _ _ _ from wz hr h0 h1 ?_)))
 first
  | exact bK h
  | exact aN (bK (bK h))
theorem wy {r:Addr} {n:Int} {t u v:Tok} {Q:Value->Shared->Prop} (hr:IsRange s.heap r 0 n 1 t u v) (h0:0<=n) (h1:n<2 ^ 62) (h:Q (.ref s.heap.objs.size) { s with heap:=s.heap.push (uO n) }) :
  wpAny (model prog w) A (call (.type "reversed") [.ref r]) Q E s:=by
 refine callType_other (U:="range_iterator") (Q₁:=fun obj z=>obj=.ref s.heap.objs.size/\z={ s with heap:=s.heap.push (uO n) }) (by decide +kernel) F.create_reversed ⟨_,_,F.mro_reversed⟩ F.made_reversed EY (F.typeCall_reversed_1 _) (wg hr h0 h1 ⟨rfl,rfl⟩) ?_
 rintro obj z ⟨rfl,rfl⟩
 exact⟨⟨_,dX _ rfl,rfl⟩,h⟩
end
def XF (n:Nat):It:=⟨fun i _=>i<n,fun i H x H'=>H'=H/\x=.int ((n:Int)-1-i),fun i _=>n<=i⟩
theorem Mr {P:Program} {w:World} {K:PySem.W.Frag} {tg:Expr} (it:Addr) (n:Nat):Turn P w K tg (XF n) [it] it (fun i h=>IsRangeIter h it ((n:Int)-1+(i:Nat)*(-1)) ((n:Int)-(i:Nat)) (-1)) where
 mem:=by simp
 obj:=fun i h st b hb=>by
  rw[fj.mp hb]
  exact⟨_,st,fun v z=>by
   have z':Data.fields _=Data.cell v:=z
   cases z'⟩
 keep:=fun i h h' st k=>k it (by simp) _ st
 item:=by
  intro X hP hw hK hc i pins s σ H E I hf st hg
  subst hP hw hK
  obtain⟨f0,f1,f2,f3,f4,f5⟩:=hf it (by simp)
  have W:=Walks.range (prog:=X.prog) (w:=X.w) (I.ok.hd hc) it ((n:Int)-1) (-1) n
  refine W.item i s _ _ hg st fun v h' tk hv st' kk=>?_
  obtain⟨t,rfl⟩:=hv
  have I1:Inv X pins σ H { s with heap:=h',toks:=tk }:=I.turned (fun b o hb e=>kk b o (by simpa using hb) e) f0 f1 f3 f4 f5
  refine⟨_,rfl,I_ (s:={ s with heap:=h',toks:=tk }) (n:="range_iterator") st' rfl rfl (by decide) ⟨.int ((n:Int)-1-i),H,I1,⟨t,?_⟩,⟨rfl,rfl⟩,st',fun b hb=>(hf b hb).1⟩⟩
  congr 1
  omega
 done:=by
  intro X hP hw hK hc i pins s σ H E I hf st hg
  subst hP hw hK
  obtain⟨f0,f1,f2,f3,f4,f5⟩:=hf it (by simp)
  exact wpAny_pyNext_range_end (I.ok.hd hc) st (by have:n<=i:=hg; omega) fun h' eb=>⟨rfl,I.turned (t':=s.toks) (fun b o hb e=>eb b o hb e) f0 f1 f3 f4 f5⟩
 self:=fun _ _ _ _ _ st h=>Nv st h
section
variable {X:Cx}
theorem Ed:bootBuiltins "reversed" = some (.type "reversed"):=by decide +kernel
def Zk (ta:TA):TI:=fun σ H R=>ta σ H fun vs H1=>∃n:Nat,vs=[.int n]/\n<=1000000/\R (XF n) H1
theorem V4 {tg a:Expr} {p p2 pos pos2:Pos} {ta:TA} (hm:X.mg "reversed" = none) (hm2:X.mg "range" = none) (ha:PA X [a] ta) (hg:Gl X "reversed" := by rfl) (hg2:Gl X "range" := by rfl) (h1:cG a=true:=by rfl) :
  PI X tg (.Call (.Name "reversed" p) [.Call (.Name "range" p2) [a] [] pos2] [] pos) (Zk ta):=by
 refine .mk ?_
 intro pins s σ H R I h
 refine uW (lA I hg hm Ed ?_ (by decide) (by decide))
 refine PyProof.Rows.callWith_type1 ?_ (cP rfl) (cN (es:=[]) rfl)
 rw[cP (e:=.Call (.Name "range" p2) [a] [] pos2) rfl]
 show wpAny _ _ (spliced ((false,eval (.Call (.Name "range" p2) [a] [] pos2) X.env)::backTo pos (starEach [] X.env))) _ _ s
 refine Calls.spliced_cons ?_
 refine uW (lA I hg2 hm2 Ef ?_ (by decide) (by decide))
 refine PyProof.Rows.callWith_type1 (cB (ha pos2 pins s σ H _ I h) fun us s1 ⟨vs,H1,I1,r1,n,e,hn,q⟩=>?_) (cP h1) (cN (es:=[]) rfl)
 subst e
 obtain⟨u,rfl,t,rfl⟩:=r1.one
 refine call_range_1 ?_
 refine Calls.spliced_nil ?_
 refine wy (IsRange.new ..) (by omega) (by omega) ?_
 have k2:∀b o,s1.heap.get? b=some o->((s1.heap.push { cls:=.type "range",data:=.fields #[.int 0 s1.toks,.int (n:Int) t,.int 1 (s1.toks+1)] }).push (uO n)).get? b=some o:=fun b o e=>gb _ (gb _ e)
 have I2:=I1.kept (t':=s1.toks+1+1) k2
 generalize hh:s1.heap.push { cls:=.type "range",data:=.fields #[.int 0 s1.toks,.int (n:Int) t,.int 1 (s1.toks+1)] }=h1' at I2 ⊢
 have sz:s1.heap.objs.size<=h1'.objs.size:=by rw[<- hh,mK]; exact Nat.le_succ _
 have st:IsRangeIter (h1'.push (uO n)) h1'.objs.size ((n:Int)-1+((0:Nat):Int)*(-1)) ((n:Int)-((0:Nat):Int)) (-1):=by
  have e1:(n:Int)-1+((0:Nat):Int)*(-1)=(n:Int)-1:=by simp
  have e2:(n:Int)-((0:Nat):Int)=n:=by simp
  rw[e1,e2]
  exact dX _ rfl
 refine Nv (s:={ s1 with heap:=h1'.push (uO n),toks:=s1.toks+1+1 }) (by exact st) ⟨h1'.objs.size,[h1'.objs.size],_,XF n,H1,rfl,I2,Mr _ n,st,fun b hb=>?_,q⟩
 rw[fj.mp hb]
 exact I1.xF sz (I1.hok.fresh sz)
def VK' (g:TG) (tb:TS) (D:Ends) (σ:St) (vs:List V) (H1:Hp):Prop:=∃n:Nat,vs=[.int n]/\n<=1000000/\∃W:Nat->Nat->St->Hp->Prop,(∃m,W 0 m σ H1)/\∀i m σ H,W i m σ H ->
 ((XF n).stop i H/\D.nx σ H)\/((XF n).go i H/\∃N:St->Hp->Prop,(∀σ' H',N σ' H'->∃m',m'<m/\W (i+1) m' σ' H')/\∀x H',(XF n).xO i H x H'->g x σ H' fun σ2 H2=>tb { D with nx:=N,ct:=N,bk:=D.nx } σ2 H2)
theorem MJ {ta:TA} {g:TG} {tb:TS} {D:Ends} {σ:St} {H:Hp}:Bu (Zk ta) g tb D σ H=ta σ H (VK' g tb D σ):=rfl
theorem VK'.of {g:TG} {tb:TS} {D:Ends} {σ:St} {H:Hp} {n:Nat} {i:Int} (ei:i=n) (hn:n<=1000000) (Pv:Nat->St->Hp->Prop) (h0:Pv 0 σ H)
  (hs:∀i σ H,i<n->Pv i σ H->g (.int ((n:Int)-1-(i:Nat))) σ H fun σ2 H2=>tb { D with nx:=Pv (i+1),ct:=Pv (i+1),bk:=D.nx } σ2 H2) (hd:∀σ H,Pv n σ H->D.nx σ H):VK' g tb D σ [.int i] H:=by
 subst ei
 refine⟨n,rfl,hn,fun i m σ H=>m=n-i/\i<=n/\Pv i σ H,⟨n,rfl,e_ _,h0⟩,?_⟩
 rintro i m σ H ⟨rfl,hi,p⟩
 by_cases hlt:i<n
 ·refine .inr ⟨hlt,Pv (i+1),fun σ' H' p'=>⟨n-(i+1),by omega,rfl,hlt,p'⟩,fun x H' y=>?_⟩
  obtain⟨e1,e2⟩:=y
  subst e1 e2
  exact hs i σ _ hlt p
 ·have e:i=n:=by omega
  subst e
  exact .inl ⟨cW _,hd σ H p⟩
end
structure tM (K:PySem.W.Frag) (x qual:Str) (st:Stmt) (f:Addr) (fd:FuncData) (T:Addr) (i:Int) (t:Tok):Prop where
 ex:∃(oc:Value) (od:Option Addr) (kV doc pm:Value) (an:Option Addr) (cdv ct:Value) (osl:Array (Option Value)),
  fd=PySem.W.fnOf x qual (dH st) (cJ st) (aH st) (.ref T) kV doc pm an cdv ct/\K.lookup f=some ⟨oc,od,.func fd,osl⟩/\PySem.W.codeIn K cdv qual=true
 kp:PySem.W.keepIn K (.ref f)=true
 df:∃o n,K.lookup T=some o/\o.data=.seq #[.int i t] n
section
variable {P:Program} {w:World} {K:PySem.W.Frag} {mg:Str->Option Value} {base:Heap}
theorem tM.ok {x qual:Str} {st:Stmt} {f T:Addr} {i:Int} {t:Tok} {fd:FuncData} {N ps:List Str} {k:Nat} {sp:Sp} (F:tM K x qual st f fd T i t) (S:aR N ps (aH st)) (len:∀vs H Q E,sp vs H Q E->vs.length=ps.length)
  (hb:∀(cdv:Value) (A:Around) (outer:List Env) (s:Shared) (H:Hp) (vs:List V) (Q:VK) (E:XK),gM k (A.deeper (envOfC qual (aH st) s.heap.objs.size f cdv))->sp vs H Q E ->
   ∃t,xK (fO iH P w K mg base N qual (aH st) f cdv A outer s H E).Xq (cJ st) t/\t { nx:=fun _ H'=>Q .non H',rt:=Q } (start N vs) H):bM P w K mg base iH (k+1) f fd ps sp:=by
 obtain⟨oc,od,kV,doc,pm,an,cdv,ct,osl,rfl,lk,hcd⟩:=F.ex
 exact Vb lk hcd S len fun A outer s H vs Q E hr hsp=>let ⟨t,h,q⟩:=hb cdv A outer s H vs Q E hr hsp; ⟨t,h.Xq,q⟩
theorem tM.binds {x qual:Str} {st:Stmt} {f T:Addr} {i:Int} {t:Tok} {fd:FuncData} {ps:List Str} {ds:List Value} (F:tM K x qual st f fd T i t)
  (h:∀(kV doc pm:Value) (an:Option Addr) (cdv ct:Value) (us:List Value),(us++ds).length=ps.length->∃k,bindArgs (PySem.W.fnOf x qual (dH st) (cJ st) (aH st) (.ref T) kV doc pm an cdv ct) ⟨us,[]⟩=seqItems? (.ref T) >>= k/\k (some #[.int i t])=pure (ps.zip (us++ds))):Binds K fd ps ds:=by
 obtain⟨oc,od,kV,doc,pm,an,cdv,ct,osl,rfl,lk,hcd⟩:=F.ex
 obtain⟨o,n,ho,hd⟩:=F.df
 intro s us KX hl
 obtain⟨k,h1,h2⟩:=h kV doc pm an cdv ct us hl
 exact BindsTo.of_defaults rfl (KX _ _ ho) hd h1 h2
end
structure Xc (P:Program) (w:World) (K:PySem.W.Frag) (mg:Str->Option Value) (base:Heap) (k:Nat) (x:Str) (ps:List Str) (i:Int) (sp:Sp) where
 f:Addr
 fd:FuncData
 t:Tok
 G:bM P w K mg base iH k f fd ps sp
 kp:PySem.W.keepIn K (.ref f)=true
 b:Binds K fd ps []
 bd:Binds K fd ps [.int i t]
 m:mg x=some (.ref f)
def Xc.mono {P:Program} {w:World} {K:PySem.W.Frag} {mg:Str->Option Value} {base:Heap} {j k:Nat} {x:Str} {ps:List Str} {i:Int} {sp:Sp} (c:Xc P w K mg base j x ps i sp) (h:j<=k):Xc P w K mg base k x ps i sp:={ c with G:=c.G.mono h }
section
variable {X:Cx} {x:Str} {p pos:Pos} {e:Expr} {es:List Expr} {t:TA}
theorem pfd {k:Nat} {ps:List Str} {i:Int} {sp:Sp} (c:Xc X.prog X.w X.K X.mg X.base k x ps i sp) (hr:gM k X.A) (ha:PA X (e::es) t) (hg:Gl X x:=by rfl) (hdb:(x==("__debug__" : Str))=false:=by decide) (h1:cG e=true:=by rfl) (h2:es.all cG=true:=by rfl) :
  PE X (.Call (.Name x p) (e::es) [] pos) (rQ sp [.int i] E0 t):=HY c.G hr hg c.m c.kp c.bd (.cons ⟨_,rfl⟩ .nil) UW ha hdb (cP h1) (cN h2)
end
section
variable {X:Cx}
end
def LK (K:PySem.W.Frag) (g:TG) (tb:TS) (D:Ends) (σ:St) (x:V) (H1:Hp):Prop:=∃a,x=.ref a/\(∃xs,gW K H1 a xs)/\∃W:Nat->Nat->St->Hp->Prop,(∃m,W 0 m σ H1)/\∀i m σ H,W i m σ H ->
 ((Vi K a).stop i H/\D.nx σ H)\/((Vi K a).go i H/\∃N:St->Hp->Prop,(∀σ' H',N σ' H'->∃m',m'<m/\W (i+1) m' σ' H')/\∀x H',(Vi K a).xO i H x H'->g x σ H' fun σ2 H2=>tb { D with nx:=N,ct:=N,bk:=D.nx } σ2 H2)
theorem uf {K:PySem.W.Frag} {tl:TE} {g:TG} {tb:TS} {D:Ends} {σ:St} {H:Hp}:Bu (yI K tl) g tb D σ H=tl σ H (LK K g tb D σ):=rfl
theorem LK.of {K:PySem.W.Frag} {g:TG} {tb:TS} {D:Ends} {σ:St} {H:Hp} {a:Addr} {xs:List V} (ha:H a=some (.lst xs)) (Pv:Nat->St->Hp->Prop) (h0:Pv 0 σ H) (hl:∀i σ H',i<=xs.length->Pv i σ H'->H' a=some (.lst xs))
  (hs:∀i x σ H,xs[i]?=some x->Pv i σ H->g x σ H fun σ2 H2=>tb { D with nx:=Pv (i+1),ct:=Pv (i+1),bk:=D.nx } σ2 H2) (hd:∀σ H,Pv xs.length σ H->D.nx σ H):LK K g tb D σ (.ref a) H:=
 ⟨a,rfl,⟨xs,gW.of ha⟩,Qg (xs:=xs) Pv h0 (fun i σ H' hi p=>gW.of (hl i σ H' hi p)) hs hd⟩
end L2
namespace L2
open PySem
mutual
def qm:PyData->Bool
 | .tuple ds=>bF ds
 | .list _=>false
 | .dict _=>false
 | .none=>true
 | .bool _=>true
 | .int _=>true
 | .str _=>true
def bF:List PyData->Bool
 | []=>true
 | d::ds=>qm d&&bF ds
end
theorem cu:∀{ds:List PyData},bF ds=true↔∀d∈ds,qm d=true
 | []=>by simp[bF]
 | d::ds=>by
  have ih:=cu (ds:=ds)
  simp only[bF,wW,ih,b8,forall_eq_or_imp]
mutual
theorem At.tE {G:Hp} {p:Addr} {xs:List V} (hp:G p=some (.lst xs)):∀(d:PyData) (v:V),qm d=true->At G d v->At (hid p G) d v
 | .none,_,_,h=>by unfold At at h ⊢; exact h
 | .bool _,_,_,h=>by unfold At at h ⊢; exact h
 | .int _,_,_,h=>by unfold At at h ⊢; exact h
 | .str _,_,_,h=>by unfold At at h ⊢; exact h
 | .tuple ds,v,n,h=>by
  unfold At at h ⊢
  obtain⟨a,ys,e,h1,h2⟩:=h
  refine⟨a,ys,e,?_,aj.tE hp ds ys (by simpa[qm] using n) h2⟩
  rw[bW (fun z=>by subst z; rw[hp] at h1; cases h1)]; exact h1
 | .list _,_,n,_=>by simp[qm] at n
 | .dict _,_,n,_=>by simp[qm] at n
theorem aj.tE {G:Hp} {p:Addr} {xs:List V} (hp:G p=some (.lst xs)):∀(ds:List PyData) (ys:List V),bF ds=true->aj G ds ys->aj (hid p G) ds ys
 | [],_,_,h=>by unfold aj at h ⊢; exact h
 | d::ds,ys,n,h=>by
  unfold aj at h ⊢
  obtain⟨x,r,e,h1,h2⟩:=h
  have n':qm d=true/\bF ds=true:=by simpa[bF] using n
  exact⟨x,r,e,At.tE hp d x n'.1 h1,aj.tE hp ds r n'.2 h2⟩
end
theorem iQ:∀ws:List Int,PyData.hasDictAll (ws.map .int)=false/\PyData.canLayAll0 (ws.map .int)=true/\PyData.depthAll (ws.map .int)=0
 | []=>⟨rfl,rfl,rfl⟩
 | w::ws=>by
  obtain⟨h1,h2,h3⟩:=iQ ws
  refine⟨?_,?_,?_⟩
  ·show(PyData.hasDict (.int w) || PyData.hasDictAll (ws.map .int))=false
   rw[h1]; rfl
  ·show(PyData.canLay0 (.int w)&&PyData.canLayAll0 (ws.map .int))=true
   rw[h2]; rfl
  ·show max (PyData.depth (.int w)) (PyData.depthAll (ws.map .int))=0
   rw[h3]; rfl
theorem yC {ts:List Str} {i:Int} (h0:0<=i) (h1:i<ts.length):∃t,t∈ts/\GR (ts.map V.str) i=some (.str t):=by
 have hi:i.toNat<ts.length:=by omega
 refine⟨ts[i.toNat],CN hi,?_⟩
 have:=bx (xs:=ts.map V.str) (j:=i.toNat) (v:=.str ts[i.toNat]) (by rw[g8,eV hi]; rfl)
 rwa [show((i.toNat:Nat):Int)=i by omega] at this
theorem iM {ts:List Int} {i:Int} (h0:0<=i) (h1:i<ts.length):∃t,t∈ts/\GR (ts.map V.int) i=some (.int t):=by
 have hi:i.toNat<ts.length:=by omega
 refine⟨ts[i.toNat],CN hi,?_⟩
 have:=bx (xs:=ts.map V.int) (j:=i.toNat) (v:=.int ts[i.toNat]) (by rw[g8,eV hi]; rfl)
 rwa [show((i.toNat:Nat):Int)=i by omega] at this
def jP (a b:TS):TS:=Mx a b
theorem Nf {c:TT} {x y b:TS}:Mx (Q_ c x y) b=jP (Q_ c x y) b:=rfl
theorem jP.of {a b:TS} {D:Ends} {σ:St} {H:Hp} (R:St->Hp->Prop) (hR:∀σ' H',R σ' H'->b D σ' H') (h:∀N:St->Hp->Prop,(∀σ' H',R σ' H'->N σ' H')->a { D with nx:=N } σ H):jP a b D σ H:=h _ hR
theorem jP.on {a b:TS} {D:Ends} {σ:St} {H:Hp} (hR:∀H',aC H H'->b D σ H') (h:∀N:St->Hp->Prop,(∀H',aC H H'->N σ H')->a { D with nx:=N } σ H):jP a b D σ H:=
 jP.of (fun σ' H'=>σ'=σ/\aC H H') (fun σ' H' z=>by rw[z.1]; exact hR H' z.2) fun N hN=>h N fun H' s=>hN _ _ ⟨rfl,s⟩
theorem KD {α:Type} {l:List α} (h:l.length=3):∃a b c,l=[a,b,c]:=by
 match l,h with
 | [a,b,c],_=>exact⟨a,b,c,rfl⟩
theorem abi {α:Type} {l:List α} (h:l.length=5):∃a b c d e,l=[a,b,c,d,e]:=by
 match l,h with
 | [a,b,c,d,e],_=>exact⟨a,b,c,d,e,rfl⟩
theorem aC.dw {H H':Hp} {p:Addr} {o:HO} (s:aC H H') (hp:H p=none):aC H (upd H' p o):=fun b u h=>by rw[aL (bV h hp)]; exact s _ _ h
theorem k_ {ds:List PyData} (h:bF ds=true) {i:Nat} {d:PyData} (e:ds[i]?=some d):qm d=true:=cu.mp h d (jW e)
theorem An {K:PySem.W.Frag} {js:List Nat} {a:Addr} {xs:List V} {es:List PyData} {tl te:TE} {σ:St} {H:Hp} {Q:VK} (hl:∀R:VK,R (.ref a) H->tl σ H R) (ha:H a=some (.lst xs)) (hn:es.length=xs.length) (hz:es.length<=sizeLine) (hL:bF es=true)
  (step:∀(i:Nat) x e H',xs[i]?=some x->es[i]?=some e->aC H H'->∀R:VK,(∀v cZ,aC H' cZ->At cZ e v->R v cZ)->te (some x::bO js σ) H' R)
  (fin:∀acc ys H',aC H H'->H acc=none->H' acc=some (.lst ys)->aj (hid acc H') es ys->Q (.ref acc) H'):gq js (yI K tl) te σ H Q:=by
 refine hl _ ⟨a,rfl,⟨xs,gW.of ha⟩,fun acc hacc=>?_⟩
 refine⟨fun i m ys H2=>m=es.length-i/\i<=es.length/\aj (hid acc H2) (es.take i) ys/\aC H H2/\H2 acc=some (.lst ys),⟨_,rfl,e_ _,aj.nil,aO hacc _,az⟩,?_⟩
 rintro i m ys H2 ⟨rfl,hi,hA,sm,hy⟩
 have ht:gW K H2 a xs:=gW.of (sm _ _ ha)
 by_cases hlt:i<es.length
 ·refine .inr ⟨⟨xs,xs[i]'(by omega),ht,eV (by omega)⟩,fun x H3 y=>?_⟩
  obtain⟨e,y⟩:=y
  subst e
  have e1:es[i]?=some es[i]:=eV hlt
  refine step i x _ _ (y xs ht) e1 sm _ fun v H4 s4 a4=>⟨s4 _ _ hy,?_,es.length-(i+1),by omega,rfl,hlt,?_,?_,az⟩
  ·rw[hA.length,nW]; omega
  ·rw[iG,Ca,e1]
   exact aj.append (hA.mono (aC.hid s4)) (aj.cons (At.tE (s4 _ _ hy) _ _ (k_ hL e1) a4) aj.nil)
  ·refine fun b o q=>?_
   have nb:b≠acc:=bV q hacc
   rw[aL nb]
   exact s4 _ _ (sm _ _ q)
 ·have e:i=es.length:=by omega
  subst e
  rw[wY] at hA
  exact .inl ⟨⟨xs,ht,by omega⟩,fin _ _ _ sm hacc hy hA⟩
end L2
namespace L2
open PySem PySem.Spec PyProof.Rows
def jc:Int->List Int->Int
 | b,[]=>b
 | b,x::l=>jc (if x<b then x else b) l
theorem yD:∀(l:List Int) (b x:Int),jc b (l++[x])=if x<jc b l then x else jc b l
 | [],b,x=>rfl
 | y::l,b,x=>by
  show jc (if y<b then y else b) (l++[x])=_
  rw[yD l]; rfl
theorem Jo (val:Nat->Int):∀k,val (argBest (fun i j=>decide (val i<val j)) k)=jc (val 0) ((List.range k).map fun i=>val (i+1))
 | 0=>rfl
 | k+1=>by
  have ih:=Jo val k
  rw[List.range_succ,jm]
  show val (if decide (val (k+1)<val (argBest _ k))=true then k+1 else argBest _ k)=jc (val 0) (_++[val (k+1)])
  rw[yD,<- ih]
  by_cases h:val (k+1)<val (argBest (fun i j=>decide (val i<val j)) k)
  ·rw[aM (iC h),aM h]
  ·rw[aK (by rw[fH h]; decide),aK h]
section
variable {X:Cx}
theorem yQ (hc:X.calm=true):dI X (.builtin "min") (fun vs H Q=>∃(p:Addr) (b:Int) (r:List Int),vs=[.ref p]/\H p=some (.lst ((b::r).map V.int))/\Q (.int (jc b r)) H):=by
 refine .mk ?_
 intro pins s σ H vs us Q I r h
 obtain⟨p,b,rs,rfl,hp,q⟩:=h
 obtain⟨u,rfl,ru⟩:=r.one
 cases ru
 obtain⟨_,its,n,rv,e⟩:=I.hok p _ hp
 obtain⟨e1,e2⟩:=pq rv
 have hl:s.heap.IsList p (intItems (its.map pairOf).toArray):=by rw[<- e1]; exact⟨_,e,rfl,n,rfl⟩
 have hlen:=rv.length
 rw[bR] at hlen
 have na:∀i,numAt (its.map pairOf).toArray i=(b::rs).getD i 0:=fun i=>by
  unfold numAt
  rw[<- e2,iB]
  simp
  rfl
 refine min_intList (I.ok.hd hc) hl (by simp; rw[<- hlen]; simp) fun v h' tk hv k=>?_
 obtain⟨t,rfl⟩:=intItems_at hv
 refine⟨.int (jc b rs),H,I.kept (t':=tk) k,⟨t,?_⟩,q⟩
 have:=Jo (numAt (its.map pairOf).toArray) ((its.map pairOf).toArray.size-1)
 rw[this]
 congr 1
 have sz:(its.map pairOf).toArray.size-1=rs.length:=by simp; rw[<- hlen]; simp
 rw[sz,na 0]
 show jc b _=_
 congr 1
 apply Hs
 ·simp
 ·intro i h1 h2
  simp at h1 h2
  rw[List.getElem_map,Hy,na (i+1)]
  simp[iB,h2]
end
structure kj (X:Cx) (nt:Nat) (N':List Str) (js:List Nat) (sc:Scope):Prop where
 kind:sc.kind=.function
 gF:∀y∈sc.names,y.2≠.cell
 names:∀y∈sc.names,y.2=.local->sc.names.lookup y.1=some .local
 clos:closureFor sc X.env=pure (pF sc X.env)
 all:(sc.names.all fun y=>y.2 != .free || (X.env.cells.lookup y.1).isSome)=true
 len:N'.length=nt+js.length
 cap:∀(i j:Nat),js[i]?=some j->N'[nt+i]?=X.N[j]?
 Qt:∀y∈N'.drop nt,X.env.kindOf y=some .cell/\sc.names.lookup y=some .free
theorem wu:∀(names:List (Str×NameKind)) (h:Heap) (acc:List (Str×Addr)) (x:Str) (c:Addr),(cellsFrom h.objs.size names acc).lookup x=some c->((pushCells h names).IsCell c none/\h.objs.size<=c)\/(acc.lookup x=some c/\(x,NameKind.cell)∉names)
 | [],h,acc,x,c,e=>.inr ⟨e,by simp⟩
 | (name,kind)::r,h,acc,x,c,e=>by
  unfold cellsFrom at e
  unfold pushCells
  split at e
  ·rename_i hk
   have hk':kind=.cell:=by simpa using hk
   rw[aM hk]
   have:=wu r (h.push { cls:=.type "cell",data:=.cell none }) ((name,h.objs.size)::acc) x c (by rw[mK]; exact e)
   rw[mK] at this
   rcases this with⟨z,z'⟩ | ⟨z,z'⟩
   ·exact .inl ⟨z,by omega⟩
   ·rw[qZ] at z
    cases hx:x==name with
    | true=>
     rw[hx] at z
     cases z
     refine .inl ⟨?_,cW _⟩
     exact⟨_,pushCells_keeps r _ _ _ (dX _ rfl),rfl⟩
    | false=>
     rw[hx] at z
     refine .inr ⟨z,fun m=>?_⟩
     rcases b8.mp m with q | q
     ·have:x=name:=(Prod.mk.inj q).1
      simp[this] at hx
     ·exact z' q
  ·rename_i hk
   rw[aK hk]
   rcases wu r h acc x c e with z | ⟨z,z'⟩
   ·exact .inl z
   ·refine .inr ⟨z,fun m=>?_⟩
    rcases b8.mp m with q | q
    ·exact hk (by rw[<- (Prod.mk.inj q).2]; rfl)
    ·exact z' q
theorem Gy:∀(names:List (Str×NameKind)) (n:Nat) (acc:List (Str×Addr)),(∀x y c,acc.lookup x=some c->acc.lookup y=some c->x=y)->(∀x c,acc.lookup x=some c->c<n) ->
  (∀x y c,(cellsFrom n names acc).lookup x=some c->(cellsFrom n names acc).lookup y=some c->x=y)/\True
 | [],n,acc,h,_=>⟨h,trivial⟩
 | (name,kind)::r,n,acc,h,hb=>by
  unfold cellsFrom
  split
  ·refine Gy r (n+1) ((name,n)::acc) (fun x y c e1 e2=>?_) (fun x c e=>?_)
   ·rw[qZ] at e1 e2
    cases hx:x==name with
    | true=>
     rw[hx] at e1
     cases e1
     cases hy:y==name with
     | true=>rw[beq_iff_eq.mp hx,beq_iff_eq.mp hy]
     | false=>rw[hy] at e2; exact absurd (hb _ _ e2) (sV _)
    | false=>
     rw[hx] at e1
     cases hy:y==name with
     | true=>rw[hy] at e2; cases e2; exact absurd (hb _ _ e1) (sV _)
     | false=>rw[hy] at e2; exact h x y c e1 e2
   ·rw[qZ] at e
    cases hx:x==name with
    | true=>rw[hx] at e; cases e; exact CP _
    | false=>rw[hx] at e; exact JW (hb _ _ e)
  ·exact Gy r n acc h hb
theorem Gz {x:Str}:∀(names:List (Str×NameKind)) (n:Nat) (acc:List (Str×Addr)),((x,NameKind.cell)∈names\/(acc.lookup x).isSome=true)->((cellsFrom n names acc).lookup x).isSome=true
 | [],n,acc,h=>by
  rcases h with h | h
  ·simp at h
  ·exact h
 | (name,kind)::r,n,acc,h=>by
  unfold cellsFrom
  split
  ·rename_i hk
   refine Gz r (n+1) _ ?_
   rcases h with h | h
   ·rcases b8.mp h with q | q
    ·refine .inr ?_
     rw[qZ,(Prod.mk.inj q).1]
     simp
    ·exact .inl q
   ·refine .inr ?_
    rw[qZ]
    split
    ·rfl
    ·exact h
  ·rename_i hk
   refine Gz r n acc ?_
   rcases h with h | h
   ·rcases b8.mp h with q | q
    ·exact absurd (by rw[<- (Prod.mk.inj q).2]; rfl) hk
    ·exact .inl q
   ·exact .inr h
theorem Av {x:Str} {c:Addr}:∀(names:List (Str×NameKind)) (n:Nat) (acc:List (Str×Addr)),(x,NameKind.cell)∉names->acc.lookup x=some c->(cellsFrom n names acc).lookup x=some c
 | [],n,acc,_,e=>e
 | (name,kind)::r,n,acc,h,e=>by
  unfold cellsFrom
  split
  ·rename_i hk
   refine Av r (n+1) _ (fun m=>h (il _ m)) ?_
   rw[qZ]
   cases hx:x==name with
   | true=>
    have hk':kind=.cell:=by simpa using hk
    exact absurd (by rw[beq_iff_eq.mp hx,hk']; exact jo) h
   | false=>exact e
  ·exact Av r n acc (fun m=>h (il _ m)) e
theorem wQ {M:Model} {A:Around} {E:Value->Shared->Prop} {s:Shared} {scope:Scope} {globals:Addr} {cl:List (Str×Addr)} {qual:Str} {env:Env} {Q:Env->Shared->Prop}
  (hQ:Q { scope,locals:=s.heap.objs.size,globals,cells:=cellsFrom (s.heap.objs.size+1) scope.names cl,qual,func:=none,code:=env.code,frame:=env.frame,builtins:=env.builtins } { s with heap:=pushCells (s.heap.push { cls:=.type "dict",data:=.dict #[] }) scope.names }) :
  wpAny M A (newFunctionEnv scope globals cl [] qual none .none (some env)) Q E s:=by
 simp only[newFunctionEnv,Option.isSome_some,if_true]
 refine aN (wpAny_alloc ?_)
 refine aN (wpAny_layCells _ (fun name kind cells=>by cases hkc:kind==NameKind.cell <;> simp[hkc]) _ _ _ _ ?_)
 rw[show({ s with heap:=s.heap.push { cls:=.type "dict",data:=.dict #[] } }:Shared).heap.objs.size=s.heap.objs.size+1 from mK ..]
 simp only[List.forIn_nil]
 exact aN (bK (bK hQ))
def Am (X:Cx) (N':List Str) (sc:Scope) (fp:List Addr) (s:Shared) (H:Hp):Cx where
 prog:=X.prog
 w:=X.w
 K:=X.K
 mg:=X.mg
 base:=X.base
 A:=X.A
 N:=N'
 s₀:=s
 H₀:=H
 env:=compEnvC sc (cellsFrom (s.heap.objs.size+1) sc.names (pF sc X.env)) s.heap.objs.size X.env
 outer:=X.stack
 stack:=X.stack
 ex:=fp
 fn:=fun y=>sc.names.lookup y==some .cell
 calm:=X.calm
 pn:=[]
 xe:=fun _ _=>False
structure QK (X:Cx) (nt:Nat) (N':List Str) (js:List Nat) (sc:Scope):Prop where
 kind:sc.kind=.function
 cells:∀y∈sc.names,y.2=.cell->sc.names.lookup y.1=some .cell
 names:∀y∈sc.names,y.2=.local->sc.names.lookup y.1=some .local
 clos:closureFor sc X.env=pure (pF sc X.env)
 all:(sc.names.all fun y=>y.2 != .free || (X.env.cells.lookup y.1).isSome)=true
 len:N'.length=nt+js.length
 cap:∀(i j:Nat),js[i]?=some j->N'[nt+i]?=X.N[j]?
 Qt:∀y∈N'.drop nt,X.env.kindOf y=some .cell/\sc.names.lookup y=some .free
theorem yH {X:Cx} {pins:List (Addr×Obj)} {σ:St} {H:Hp} {s:Shared} {fp:List Addr} {N':List Str} {js:List Nat} {sc:Scope} {nt:Nat} {h1:Heap} {tk:Nat} (I:Inv X pins σ H s) (hf:∀b∈fp,ie X pins H b) (hlt:∀b∈fp,b<s.heap.objs.size)
  (S:QK X nt N' js sc) (Aw:∀{x:Str} {c:Addr},(cellsFrom (s.heap.objs.size+1) sc.names (pF sc X.env)).lookup x=some c->(h1.IsCell c none/\s.heap.objs.size<c)\/((pF sc X.env).lookup x=some c/\(x,NameKind.cell)∉sc.names)) (hn:h1.Ns s.heap.objs.size fun _=>none) (hk:∀b o,s.heap.get? b=some o->h1.get? b=some o):Inv (Am X N' sc fp s H) [] (List.replicate nt none++bO js σ) H { s with heap:=h1,toks:=tk }:=by
 have old:∀x c,(pF sc X.env).lookup x=some c->c<s.heap.objs.size+1:=fun x c e=>by
  obtain⟨v,o,ho,_⟩:=I.cell x c (gJ e)
  exact JW (b_ ho)
 refine⟨⟨I.ok.mod,S.kind,I.ok.glob,I.ok.blt,cW _,fun x y c e1 e2=>(Gy sc.names _ _ (fun x y c e1 e2=>I.ok.inj x y c (gJ e1) (gJ e2)) old).1 x y c e1 e2,fun x hx=>?_,fun x c hf' e=>(by
   rcases Aw e with z | ⟨_,z⟩
   ·exact iz z.2
   ·exact absurd (PySem.mem_of_lookup (show sc.names.lookup x=some .cell from by simpa using(show(sc.names.lookup x==some NameKind.cell)=true from hf'))) z),I.ok.hd,I.ok.frames,.inl rfl,fun b hb=>⟨gk (hlt b hb),fun x c e=>(by
   rcases Aw e with z | ⟨z,_⟩
   ·exact Cz (Cy (hlt b hb) z.2)
   ·exact(hf b hb).2.2.2.2.1 x c (gJ z))⟩,I.bs,
  nR I.ok.Qy I.sz,fun b o e hb=>?_,fun b hb z=>?_,I.stack,I.tR⟩,rfl,I.bare,Un.kept hk,⟨fun _=>none,hn,fun i x v e1 e2 e3=>?_⟩,fun x c e=>?_,I.hok.fresh (cW _),fun x c e=>(by
   rcases Aw e with z | ⟨z,_⟩
   ·exact I.hok.fresh (iz z.2)
   ·exact I.j6 x c (gJ z)),fun p hp=>absurd (show p∈([]:List (Addr×Obj)) from hp) (by simp),I.hok.kept hk,?_⟩
 ·refine Cq.mp (Gz sc.names _ _ ?_)
  have hx':(relabel sc X.env).names.lookup x=some .cell\/(relabel sc X.env).names.lookup x=some .free:=hx
  have key:(x,NameKind.cell)∈sc.names\/(x,NameKind.free)∈sc.names:=by
   rcases hx' with q | q
   ·obtain⟨k,hm,e | ⟨e,_⟩⟩:=sr q
    ·rw[<- e] at hm; exact .inl hm
    ·refine .inr ?_; rw[<- e]; exact hm
   ·refine .inr ?_
    obtain⟨k,hm,e | ⟨e,_⟩⟩:=sr q
    ·rw[e]; exact hm
    ·rw[<- e]; exact hm
  rcases key with key | key
  ·exact .inl key
  have a:=wX.mp S.all _ key
  have a':(X.env.cells.lookup x).isSome=true:=by simpa using a
  obtain⟨c,hc⟩:=Cq.mp a'
  exact .inr (Cq.mpr ⟨c,Gx hc sc.names [] key⟩)
 ·rcases(hf b hb).2.2.2.1 with z | z
  ·exact I.ok.Gd b o e z
  ·exact absurd (jV (b_ e) (nR I.ok.Qy z)) (sV _)
 ·rcases b8.mp (I.E_ b z) with q | q
  ·exact(hf b hb).2.1 q
  ·exact(hf b hb).2.2.1 q
 ·by_cases hlt:i<nt
  ·rw[Cw (by rw[Ck]; exact hlt),Nx,aM hlt] at e2
   cases e2
  ·obtain⟨i',rfl⟩:∃i',i=nt+i':=⟨i-nt,by omega⟩
   rw[zO (by rw[Ck]; omega),Ck,Nat.add_sub_cancel_left] at e2
   have e2':(bO js σ)[i']?=some (some v):=e2
   unfold bO at e2'
   rw[g8] at e2'
   cases hj:js[i']? with
   | none=>rw[hj] at e2'; simp at e2'
   | some j=>
    rw[hj] at e2'
    have e4:(σ[j]?).join=some v:=by simpa using e2'
    have e5:σ[j]?=some (some v):=by
     cases q:σ[j]? with
     | none=>rw[q] at e4; simp at e4
     | some z=>rw[q] at e4; simp at e4; rw[e4]
    have e6:X.N[j]?=some x:=by rw[<- S.cap i' j hj]; exact e1
    have mem:x∈N'.drop nt:=by
     have e1':N'[nt+i']?=some x:=e1
     exact jW (i:=i') (by rw[CV]; exact e1')
    obtain⟨k1,k2⟩:=S.Qt x mem
    obtain⟨m,_,hl⟩:=I.loc
    obtain⟨u,r,l⟩:=hl j x v e6 e5 (.inr (.inl k1))
    refine⟨u,r,.inr ⟨.inl (qb I.ok.kind k1 sc.names k2),?_⟩⟩
    rcases l with⟨z,_⟩ | ⟨_,c,hc,hcell⟩
    ·rw[k1] at z; cases z
    ·obtain⟨o,ho,hd⟩:=hcell
     exact⟨c,Av sc.names _ _ (fun z=>by have:=S.cells _ z rfl; rw[k2] at this; cases this) (Gx hc sc.names [] (PySem.mem_of_lookup k2)),o,hk c o ho,hd⟩
 ·rcases Aw e with z | ⟨z,_⟩
  ·exact⟨none,z.1⟩
  ·obtain⟨v,o,ho,hd⟩:=I.cell x c (gJ z)
   exact⟨v,o,hk c o ho,hd⟩
 ·show(List.replicate nt none++bO js σ).length=N'.length
  rw[S.len]; simp[bO]
theorem Ar:∀{names:List (Str×NameKind)} {n:Nat} {acc:List (Str×Addr)},(∀y∈names,y.2≠.cell)->cellsFrom n names acc=acc
 | [],_,_,_=>rfl
 | (name,kind)::r,n,acc,h=>by
  unfold cellsFrom
  rw[aK (fun z=>h _ jo (by simpa using z))]
  exact Ar fun y hy=>h y (il _ hy)
theorem vX {X:Cx} {N':List Str} {sc:Scope} {fp:List Addr} {s:Shared} {H:Hp} (h:∀y∈sc.names,y.2≠.cell):pC X N' sc fp s H=Am X N' sc fp s H:=by
 have e:(fun _:Str=>false)=fun y=>sc.names.lookup y==some .cell:=funext fun y=>by
  cases z:sc.names.lookup y==some NameKind.cell with
  | false=>rfl
  | true=>exact absurd rfl (h _ (PySem.mem_of_lookup (by simpa using z)))
 unfold pC Am
 rw[Ar h,e]
theorem kj.toD {X:Cx} {nt:Nat} {N':List Str} {js:List Nat} {sc:Scope} (S:kj X nt N' js sc):QK X nt N' js sc:=⟨S.kind,fun y hy e=>absurd e (S.gF y hy),S.names,S.clos,S.all,S.len,S.cap,S.Qt⟩
theorem KY {X:Cx} {pins:List (Addr×Obj)} {σ:St} {H:Hp} {s:Shared} {fp:List Addr} {N':List Str} {js:List Nat} {sc:Scope} {nt:Nat} {h1:Heap} {tk:Nat} (I:Inv X pins σ H s) (hf:∀b∈fp,ie X pins H b) (hlt:∀b∈fp,b<s.heap.objs.size)
  (S:kj X nt N' js sc) (hn:h1.Ns s.heap.objs.size fun _=>none) (hk:∀b o,s.heap.get? b=some o->h1.get? b=some o):Inv (pC X N' sc fp s H) [] (List.replicate nt none++bO js σ) H { s with heap:=h1,toks:=tk }:=by
 rw[vX S.gF]
 exact yH I hf hlt S.toD (fun {x c} e=>by rw[Ar S.gF] at e; exact .inr ⟨e,fun z=>S.gF _ z rfl⟩) hn hk
structure Bg (X:Cx) (ifs:List Expr) (t:TT):Prop where
 mk ::
 go:∀(pins:List (Addr×Obj)) (s:Shared) (σ:St) (H:Hp) (Q:Bool->Hp->Prop),Inv X pins σ H s->t σ H Q->wpAny (model X.prog X.w) X.A (forIn ifs true fun c r=>if r=true then do let ok <- isTrue c X.env (eval c X.env); pure (ForInStep.yield ok) else pure (ForInStep.yield r)) (TP X pins σ Q) X.xe s
instance {X:Cx} {ifs:List Expr} {t:TT}:CoeFun (Bg X ifs t) (fun _=>
 ∀(pins:List (Addr×Obj)) (s:Shared) (σ:St) (H:Hp) (Q:Bool->Hp->Prop),Inv X pins σ H s->t σ H Q->wpAny (model X.prog X.w) X.A (forIn ifs true fun c r=>if r=true then do let ok <- isTrue c X.env (eval c X.env); pure (ForInStep.yield ok) else pure (ForInStep.yield r)) (TP X pins σ Q) X.xe s):=⟨Bg.go⟩
def qR:TT:=fun _ H Q=>Q true H
theorem gQ {X:Cx}:Bg X [] qR:=.mk fun pins s σ H Q I h=>wpAny_tests_nil ⟨H,I,h⟩
theorem S7 {X:Cx} {c:Expr} {t:TT} (h:PT X c t):Bg X [c] t:=.mk fun pins s σ H Q I q=>wpAny_tests_one (h pins s σ H Q I q)
def gw (nt:Nat) (js:List Nat) (wi:TI) (g:TG) (tc:TT) (te:TE):TE:=fun σ H Q=>wi σ H fun J H1=>∀acc,H1 acc=none->∃W:Nat->Nat->List V->Hp->Prop,(∃m,W 0 m [] (upd H1 acc (.lst [])))/\∀i m ys H2,W i m ys H2 ->
 (J.stop i H2/\Q (.ref acc) H2)\/(J.go i H2/\∀x H3,J.xO i H2 x H3->g x (List.replicate nt none++bO js σ) H3 fun σ' H'=>(σ'.drop nt=bO js σ/\σ'.length=(List.replicate nt (none:Option V)++bO js σ).length)/\tc σ' H' fun b cZ=>
  if b=true then te σ' cZ fun y H4=>H4 acc=some (.lst ys)/\ys.length<sizeLine/\∃m',m'<m/\W (i+1) m' (ys++[y]) (upd H4 acc (.lst (ys++[y]))) else ∃m',m'<m/\W (i+1) m' ys cZ)
theorem Ao {prog:Program} {w:World} {A:Around} {R:Result->Shared->Prop} {s:Shared} {elt target iter:Expr} {ifs:List Expr} {sc:Scope} {pos:Pos} {it acc:Value} {env:Env} (Iv:Nat->Shared->Prop)
  (turn:∀n s,Iv n s->wpAny (model prog w) A (pyNext it) (fun r s1=>match r with
   | none=>R (.ok .next) s1
   | some v=>wpAny (model prog w) A (letOwnedTupleGo target it v) (fun _ s2=>wpAny (model prog w) A (assign target env v) (fun _ s3=>
     wpAny (model prog w) A (forIn ifs true fun c r=>if r=true then do let ok <- isTrue c env (eval c env); pure (ForInStep.yield ok) else pure (ForInStep.yield r)) (fun ok YB=>
     if ok=true then wpAny (model prog w) A (eval elt env) (fun x s4=>
     wpAny (model prog w) A (call (.builtin "list.append") [acc,x]) (fun _ s5=>∃m,m<n/\Iv m s5) (fun _ _=>False) s4) (fun _ _=>False) YB else ∃m,m<n/\Iv m YB) (fun _ _=>False) s3) (fun _ _=>False) s2) (fun _ _=>False) s1) (fun _ _=>False) s)
  (n:Nat) (h:Iv n s):codeAny (model prog w) A (.compLoop (.ListComp elt [⟨target,iter,ifs,0⟩] sc pos) 0 it acc env) R s:=by
 refine codeAny_loop rfl Iv (fun n s hI=>?_) n h
 show wpAny _ _ ((compTurn (.ListComp elt [⟨target,iter,ifs,0⟩] sc pos) 0 it acc env).onRaise (fun x=>do noteFrame x env; theTreesLotGoes x)) _ _ s
 refine wpAny_noted ?_
 rw[compTurn_list]
 refine aN (wV (aN (fV (turn n s hI) (fun r s1 q1=>?_) fun _ _ f=>f.elim)))
 cases r with
 | none=>exact bK q1
 | some v=>
  refine aN (fV q1 (fun _ s2 q2=>?_) fun _ _ f=>f.elim)
  refine aN (fV q2 (fun _ s3 q3=>aN (fV q3 (fun ok YB q3'=>?_) fun _ _ f=>f.elim)) fun _ _ f=>f.elim)
  cases ok with
  | false=>exact bK ⟨rfl,q3'⟩
  | true=>exact aN (aN (fV q3' (fun x s4 q4=>aN (fV q4 (fun _ s5 q5=>bK (bK ⟨rfl,q5⟩)) fun _ _ f=>f.elim)) fun _ _ f=>f.elim))
theorem vY {X:Cx} {elt iter:Expr} {tg:Expr} {ifs:List Expr} {g:TG} {tc:TT} {nt:Nat} {pos:Pos} {sc:Scope} {wi:TI} {te:TE} {N':List Str} {js:List Nat} {use:Option (Value->Sem Unit)} {Qc:Value->Shared->Prop} {pins:List (Addr×Obj)} {s:Shared} {σ:St} {H:Hp} {Q:VK} {kp:Pos} (hc:X.calm=true) (hi:PI X tg iter wi) (S:QK X nt N' js sc)
  (hgt:∀fp s H,PG (Am X N' sc fp s H) tg g) (hif:∀fp s H,Bg (Am X N' sc fp s H) ifs tc) (he:∀fp s H,PE (Am X N' sc fp s H) elt te) (hs:∀x,foldedSetIterable iter X.env x=pure x) (I:Inv X pins σ H s) (h:gw nt js wi g tc te σ H Q)
  (fin:∀(acc C:Addr) (H':Hp) (s':Shared),Inv X pins σ H' s'->ie X pins H' C->(∃m,s'.heap.Ns C m)->Q (.ref acc) H'->compPost (model X.prog X.w) X.A X.xe use Qc (.ref acc) C (.ok .next) s') :
  wpAny (model X.prog X.w) X.A (comprehension (.ListComp elt [⟨tg,iter,ifs,0⟩] sc pos) sc X.env kp (newList []) false (eval iter X.env) use) Qc X.xe s:=by
 refine wpAny_comprehension_free (use:=use) rfl hs S.clos S.kind S.names ?_
 refine cB (hi pins s σ H _ I h) fun v s1 q1=>cB q1 fun itv s2 q2=>?_
 obtain⟨it,fp,tn,J,H2,e,I2,T,st2,f2,q3⟩:=q2
 subst e
 refine q_ ?_
 obtain⟨W,⟨m0,w0⟩,turn⟩:=q3 s2.heap.objs.size I2.fresh
 have I3:=I2.Wr (ys:=[]) (its:=[]) (t':=s2.toks) .nil (e_ _)
 have Zh:∀b∈fp,b<s2.heap.objs.size:=fun b hb=>by
  obtain⟨o,ho,_⟩:=T.obj 0 _ st2 b hb
  exact b_ ho
 generalize e3:({ s2 with heap:=s2.heap.push { cls:=.type "list",data:=.seq ([]:List Value).toArray },toks:=s2.toks }:Shared)=s3 at I3
 have e3':({ s2 with heap:=s2.heap.push { cls:=.type "list",dict:=none,data:=.seq ([]:List Value).toArray } }:Shared)=s3:=e3
 have sz3:s3.heap.objs.size=s2.heap.objs.size+1:=by rw[<- e3]; exact mK ..
 have st3:tn 0 s3.heap:=T.keep 0 _ _ st2 fun b hb o ho=>by rw[<- e3]; exact gb _ ho
 have Zg:∀b∈fp,b<s3.heap.objs.size:=fun b hb=>by rw[sz3]; exact JW (Zh b hb)
 have f3:∀b∈fp,ie X pins (upd H2 s2.heap.objs.size (.lst [])) b:=fun b hb=>⟨by rw[aL (gk (Zh b hb))]; exact(f2 b hb).1,(f2 b hb).2⟩
 generalize hH3:upd H2 s2.heap.objs.size (.lst [])=H3 at I3 f3 w0
 refine wQ ?_
 generalize eh1:pushCells (s3.heap.push { cls:=.type "dict",data:=.dict #[] }) sc.names=h1
 have hk:∀b o,s3.heap.get? b=some o->h1.get? b=some o:=fun b o q=>by rw[<- eh1]; exact pushCells_keeps _ _ b o (gb _ q)
 have hns':h1.Ns s3.heap.objs.size fun _=>none:=by rw[<- eh1]; exact(Heap.Ns.new s3.heap (.type "dict")).keeps (pushCells_keeps _ _)
 have I4:Inv (Am X N' sc fp s3 H3) [] (List.replicate nt none++bO js σ) H3 { s3 with heap:=h1,toks:=s3.toks }:=yH I3 f3 Zg S (fun {x c} e=>by
  have:=wu sc.names (s3.heap.push { cls:=.type "dict",data:=.dict #[] }) (pF sc X.env) x c (by rw[mK]; exact e)
  rw[eh1,mK] at this
  exact this) hns' hk
 have Yt:tn 0 h1:=T.keep 0 _ _ st3 fun b hb o ho=>hk b o ho
 have stat:∀{H':Hp},(∀b∈fp,H' b=none)->∀b∈fp,ie (Am X N' sc fp s3 H3) [] H' b:=fun hn b hb=>⟨hn b hb,gk (Zg b hb),I4.ok.Gp b hb,.inl hb,(I4.ok.Zz b hb).2,fun p hp=>absurd (show p∈([]:List (Addr×Obj)) from hp) (by simp)⟩
 have out:∀{σ':St} {H':Hp} {s':Shared},Inv (Am X N' sc fp s3 H3) [] σ' H' s'->Q (.ref s2.heap.objs.size) H'->compPost (model X.prog X.w) X.A X.xe use Qc (.ref s2.heap.objs.size) s3.heap.objs.size (.ok .next) s':=by
  intro σ' H' s' I' q'
  obtain⟨m,hn,_⟩:=id I'.loc
  have I5:Inv X pins σ H' s':=I3.call' I'.os I'.base I'.hok I'.bare fun b hb=>⟨(f3 b hb).2.2.2.1,(f3 b hb).2.1,(f3 b hb).2.2.2.2.1,(f3 b hb).2.2.2.2.2⟩
  exact fin _ _ H' s' I5 (I3.xF (cW _) I'.free) ⟨m,hn⟩ q'
 have loop:∀s4:Shared,s4={ s3 with heap:=h1,toks:=s3.toks }->codeAny (model X.prog X.w) X.A (.compLoop (.ListComp elt [⟨tg,iter,ifs,0⟩] sc pos) 0 (.ref it) (.ref s2.heap.objs.size) (compEnvC sc (cellsFrom (s3.heap.objs.size+1) sc.names (pF sc X.env)) s3.heap.objs.size X.env))
   (compPost (model X.prog X.w) X.A X.xe use Qc (.ref s2.heap.objs.size) s3.heap.objs.size) s4:=by
  rintro s4 rfl
  refine Ao (fun n s'=>∃i ys H',Inv (Am X N' sc fp s3 H3) [] (List.replicate nt none++bO js σ) H' s'/\tn i s'.heap/\(∀b∈fp,H' b=none)/\W i n ys H') ?_ m0 ⟨0,[],H3,I4,Yt,fun b hb=>(f3 b hb).1,w0⟩
  rintro n s5 ⟨i,ys,H5,I5,Rc,WL,w5⟩
  rcases turn i n ys H5 w5 with⟨stop,qn⟩ | ⟨go,step⟩
  ·refine cB (T.done (Am X N' sc fp s3 H3) rfl rfl rfl hc i [] s5 _ H5 (fun _ _=>False) I5 (stat WL) Rc stop) fun r s6 qx=>?_
   obtain⟨hr,I6⟩:=qx
   subst hr
   exact out I6 qn
  ·refine cB (T.item (Am X N' sc fp s3 H3) rfl rfl rfl hc i [] s5 _ H5 (fun _ _=>False) I5 (stat WL) Rc go) fun r s6 qx=>?_
   obtain⟨u,hr,q6⟩:=qx
   subst hr
   refine cB q6 fun _ s7 qx=>?_
   obtain⟨y,H7,I7,r7,y7,Rb,fr7⟩:=qx
   have I7':=I7.pinned (stat fr7) (T.obj _ _ Rb)
   refine cB (hgt fp s3 H3 _ s7 _ H7 y u _ I7' r7 (step y _ y7)) fun _ s8 qx=>?_
   obtain⟨σ8,H8,I8,hsh,q8⟩:=qx
   refine cB (hif fp s3 H3 _ s8 _ _ _ I8 q8) fun b s8' qx=>?_
   obtain⟨H8',I8',q8'⟩:=qx
   have wk:∀k v,(List.replicate nt none++bO js σ)[k]?=some (some v)->σ8[k]?=some (some v):=fun k v e=>by
    by_cases hlt:k<nt
    ·rw[Cw (by rw[Ck]; exact hlt),Nx,aM hlt] at e
     cases e
    ·rw[zO (by rw[Ck]; omega),Ck,<- hsh.1,CV] at e
     rw[show nt+(k-nt)=k by omega] at e
     exact e
   cases b with
   | true=>
    rw[aM rfl] at q8' ⊢
    refine cB (he fp s3 H3 _ s8' _ _ _ I8' q8') fun z s9 qx=>?_
    obtain⟨vz,H9,I9,r9,ha,hz,m',hm,w9⟩:=qx
    refine cB (j0 (X:=Am X N' sc fp s3 H3) _ s9 _ H9 (.ref s2.heap.objs.size) [vz] (.ref s2.heap.objs.size) [z] (fun _ H'=>H'=upd H9 s2.heap.objs.size (.lst (ys++[vz]))) I9 rfl (.cons r9 .nil) ⟨_,ys,vz,rfl,rfl,ha,hz,rfl⟩) fun _ rY qx=>?_
    obtain⟨_,Bj,ZZ,_,e10⟩:=qx
    subst e10
    refine⟨m',hm,i+1,ys++[vz],_,(ZZ.gY).weak hsh.2.symm wk,T.keep _ _ _ Rb fun b hb o e=>(ZZ.pin (b,o) (ir _ (ir _ (cH hb e)))).1,fun b hb=>?_,w9⟩
    obtain⟨o,e,d⟩:=T.obj _ _ Rb b hb
    exact(ZZ.pin (b,o) (ir _ (ir _ (cH hb e)))).2.1
   | false=>
    rw[aK (by decide)] at q8' ⊢
    obtain⟨m',hm,w9⟩:=q8'
    refine⟨m',hm,i+1,ys,_,(I8'.gY).weak hsh.2.symm wk,T.keep _ _ _ Rb fun b hb o e=>(I8'.pin (b,o) (ir _ (ir _ (cH hb e)))).1,fun b hb=>?_,w9⟩
    obtain⟨o,e,d⟩:=T.obj _ _ Rb b hb
    exact(I8'.pin (b,o) (ir _ (ir _ (cH hb e)))).2.1
 exact codeAny_compStart_list (loop _ rfl) (T.self X.A 0 _ _ _ Yt (loop _ rfl))
theorem NZ {X:Cx} {elt iter:Expr} {tg:Expr} {ifs:List Expr} {g:TG} {tc:TT} {nt:Nat} {y:Str} {py pos spos:Pos} {sc:Scope} {wi:TI} {te:TE} {N':List Str} {js:List Nat} {i:Nat} (hN:X.N.Nodup) (hi':X.N[i]?=some y) (hy:Loc X.env.scope y) (hc:X.calm=true) (hi:PI X tg iter wi) (S:QK X nt N' js sc)
  (hgt:∀fp s H,PG (Am X N' sc fp s H) tg g) (hif:∀fp s H,Bg (Am X N' sc fp s H) ifs tc) (he:∀fp s H,PE (Am X N' sc fp s H) elt te) (hs:∀x,foldedSetIterable iter X.env x=pure x:=by intro _; rfl) (hw:swapsWith (.ListComp elt [⟨tg,iter,ifs,0⟩] sc pos) (some (.Name y py)) spos.line X.env=pure true:=by rfl)
  (hf:X.fn y=true\/X.env.scope.names.lookup y=some .local:=by first | exact .inl rfl | exact .inr rfl | assumption) :
  PS X (.Assign [.Name y py] (.ListComp elt [⟨tg,iter,ifs,0⟩] sc pos) spos) (JK (gw nt js wi g tc te) (d8 i)):=by
 refine .mk ?_
 intro pins s σ H D I h
 rw[exec_Assign_Name_used _ _ _ _ hw]
 refine aN (wV (aN ?_))
 refine aN (vY hc hi S hgt hif he hs I h fun acc C H' s' I5 fc ⟨m,hn⟩ q=>?_)
 have ho:∀b∈[C],∃o,s'.heap.get? b=some o/\∀v,o.data≠.cell v:=fun b hb=>by
  rw[fj.mp hb]
  obtain⟨o,es,n,e,ed,_⟩:=hn
  exact⟨o,e,fun v z=>by rw[ed] at z; cases z⟩
 have I6:=I5.pinned (fp:=[C]) (fun b hb=>by rw[fj.mp hb]; exact fc) ho
 have hg:PG X (.Name y py) (d8 i):=aF hN hi' hy hf
 show wpAny _ _ (assign (.Name y py) X.env (.ref acc)) (fun _ s''=>∃m,s''.heap.Ns C m/\∀h',Heap.SameBut C s''.heap h'->_) _ s'
 refine cB (hg _ s' _ H' (.ref acc) (.ref acc) _ I6 rfl q) fun _ s7 qx=>?_
 obtain⟨σ7,H7,I7,q7⟩:=qx
 have pc:∀o,s'.heap.get? C=some o->s7.heap.get? C=some o/\H7 C=none:=fun o e=>by
  have:=I7.pin (C,o) (ir _ (ir _ (cH (by simp) e)))
  exact⟨this.1,this.2.1⟩
 refine⟨m,hn.at fun o e=>(pc o e).1,fun h' sb=>bK (bK ⟨σ7,H7,?_,q7⟩)⟩
 have fr:H7 C=none:=by
  obtain⟨o,es,n,e,ed,_⟩:=hn
  exact(pc o e).2
 exact I7.gY.turned (it:=C) (t':=s7.toks) (fun b o hb e=>sb.extBut b o hb e) fr fc.2.1 fc.2.2.2.1 fc.2.2.2.2.1 fc.2.2.2.2.2
theorem Oc {X:Cx} {elt iter tg:Expr} {ifs:List Expr} {g:TG} {tc:TT} {nt:Nat} {pos:Pos} {sc:Scope} {wi:TI} {te:TE} {N':List Str} {js:List Nat} (hc:X.calm=true) (hi:PI X tg iter wi) (S:QK X nt N' js sc)
  (hgt:∀fp s H,PG (Am X N' sc fp s H) tg g) (hif:∀fp s H,Bg (Am X N' sc fp s H) ifs tc) (he:∀fp s H,PE (Am X N' sc fp s H) elt te) (hs:∀x,foldedSetIterable iter X.env x=pure x:=by intro _; rfl):PE X (.ListComp elt [⟨tg,iter,ifs,0⟩] sc pos) (gw nt js wi g tc te):=by
 refine .mk ?_
 intro pins s σ H Q I h
 rw[eval_ListComp]
 refine vY (use:=none) hc hi S hgt hif he hs I h fun acc C H' s' I5 fc ⟨m,hn⟩ q=>?_
 refine⟨m,hn,fun h' sb=>?_⟩
 exact⟨.ref acc,H',I5.turned (it:=C) (t':=s'.toks) (fun b o hb q=>sb.extBut b o hb q) fc.1 fc.2.1 fc.2.2.2.1 fc.2.2.2.2.1 fc.2.2.2.2.2,rfl,q⟩
theorem NQ {X:Cx} {elt iter:Expr} {tg:Expr} {ifs:List Expr} {g:TG} {tc:TT} {nt:Nat} {y:Str} {py pos spos:Pos} {sc:Scope} {wi:TI} {te:TE} {N':List Str} {js:List Nat} {i:Nat} (hN:X.N.Nodup) (hi':X.N[i]?=some y) (hy:Loc X.env.scope y) (hc:X.calm=true) (hi:PI X tg iter wi) (S:kj X nt N' js sc)
  (hgt:∀fp s H,PG (pC X N' sc fp s H) tg g) (hif:∀fp s H,Bg (pC X N' sc fp s H) ifs tc) (he:∀fp s H,PE (pC X N' sc fp s H) elt te) (hs:∀x,foldedSetIterable iter X.env x=pure x:=by intro _; rfl) (hw:swapsWith (.ListComp elt [⟨tg,iter,ifs,0⟩] sc pos) (some (.Name y py)) spos.line X.env=pure true:=by rfl)
  (hf:X.fn y=true\/X.env.scope.names.lookup y=some .local:=by first | exact .inl rfl | exact .inr rfl | assumption) :
  PS X (.Assign [.Name y py] (.ListComp elt [⟨tg,iter,ifs,0⟩] sc pos) spos) (JK (gw nt js wi g tc te) (d8 i)):=NZ hN hi' hy hc hi S.toD (fun fp s H=>vX S.gF▸hgt fp s H) (fun fp s H=>vX S.gF▸hif fp s H) (fun fp s H=>vX S.gF▸he fp s H) hs hw hf
theorem eQ {X:Cx} {elt iter tg:Expr} {ifs:List Expr} {g:TG} {tc:TT} {nt:Nat} {pos:Pos} {sc:Scope} {wi:TI} {te:TE} {N':List Str} {js:List Nat} (hc:X.calm=true) (hi:PI X tg iter wi) (S:kj X nt N' js sc)
  (hgt:∀fp s H,PG (pC X N' sc fp s H) tg g) (hif:∀fp s H,Bg (pC X N' sc fp s H) ifs tc) (he:∀fp s H,PE (pC X N' sc fp s H) elt te) (hs:∀x,foldedSetIterable iter X.env x=pure x:=by intro _; rfl):PE X (.ListComp elt [⟨tg,iter,ifs,0⟩] sc pos) (gw nt js wi g tc te):=Oc hc hi S.toD (fun fp s H=>vX S.gF▸hgt fp s H) (fun fp s H=>vX S.gF▸hif fp s H) (fun fp s H=>vX S.gF▸he fp s H) hs
theorem tO.toG {X:Cx} {N':List Str} {js:List Nat} {sc:Scope} (S:tO X N' js sc):kj X 1 N' js sc:=⟨S.kind,S.gF,S.names,S.clos,S.all,by rw[S.len,Nat.add_comm],fun i j h=>by rw[Nat.add_comm]; exact S.cap i j h,fun y h=>S.Qt y (by rw[<- List.drop_one]; exact h)⟩
theorem Ha {js:List Nat} {wi:TI} {te:TE}:gq js wi te=gw 1 js wi (d8 0) qR te:=by
 funext σ H Q
 have e:∀(x:V) (H3:Hp) (K1:VK) (K2:Hp->Prop),te (some x::bO js σ) H3 K1=d8 0 x (List.replicate 1 none++bO js σ) H3 fun σ' H'=>(σ'.drop 1=bO js σ/\σ'.length=(List.replicate 1 (none:Option V)++bO js σ).length)/\qR σ' H' fun b cZ=>if b=true then te σ' cZ K1 else K2 cZ:=fun x H3 K1 K2=>propext ⟨fun h=>⟨⟨rfl,rfl⟩,h⟩,fun h=>h.2⟩
 unfold gq gw
 refine jl (wi σ H) (funext fun J=>funext fun H1=>?_)
 refine propext ⟨fun h acc ha=>?_,fun h acc ha=>?_⟩
 ·obtain⟨W,h0,hs⟩:=h acc ha
  refine⟨W,h0,fun i m ys H2 w=>(hs i m ys H2 w).imp id fun z=>⟨z.1,fun x H3 y=>?_⟩⟩
  have:=z.2 x H3 y
  rw[e x H3 _ fun cZ=>∃m',m'<m/\W (i+1) m' ys cZ] at this
  exact this
 ·obtain⟨W,h0,hs⟩:=h acc ha
  refine⟨W,h0,fun i m ys H2 w=>(hs i m ys H2 w).imp id fun z=>⟨z.1,fun x H3 y=>?_⟩⟩
  rw[e x H3 _ fun cZ=>∃m',m'<m/\W (i+1) m' ys cZ]
  exact z.2 x H3 y
theorem gP {X:Cx} {elt iter:Expr} {x:Str} {px pos:Pos} {sc:Scope} {wi:TI} {te:TE} {N':List Str} {js:List Nat} (hc:X.calm=true) (hi:PI X (.Name x px) iter wi) (S:tO X N' js sc) (h0:N'[0]?=some x) (nd:N'.Nodup)
  (hx:sc.names.lookup x=some .local) (he:∀fp s H,PE (pC X N' sc fp s H) elt te) (hs:∀x,foldedSetIterable iter X.env x=pure x:=by intro _; rfl):PE X (.ListComp elt [⟨.Name x px,iter,[],0⟩] sc pos) (gq js wi te):=by
 rw[Ha]
 exact eQ hc hi S.toG (fun _ _ _=>aF nd h0 (.inl (iK hx)) (.inr (iK hx))) (fun _ _ _=>gQ) he hs
theorem zP {X:Cx} {elt iter:Expr} {x y:Str} {px py pos spos:Pos} {sc:Scope} {wi:TI} {te:TE} {N':List Str} {js:List Nat} {i:Nat} (hN:X.N.Nodup) (hi':X.N[i]?=some y) (hy:Loc X.env.scope y) (hc:X.calm=true) (hi:PI X (.Name x px) iter wi) (S:tO X N' js sc) (h0:N'[0]?=some x) (nd:N'.Nodup)
  (hx:sc.names.lookup x=some .local) (he:∀fp s H,PE (pC X N' sc fp s H) elt te) (hs:∀x,foldedSetIterable iter X.env x=pure x:=by intro _; rfl) (hw:swapsWith (.ListComp elt [⟨.Name x px,iter,[],0⟩] sc pos) (some (.Name y py)) spos.line X.env=pure true:=by rfl)
  (hf:X.fn y=true\/X.env.scope.names.lookup y=some .local:=by first | exact .inl rfl | exact .inr rfl | assumption) :
  PS X (.Assign [.Name y py] (.ListComp elt [⟨.Name x px,iter,[],0⟩] sc pos) spos) (JK (gq js wi te) (d8 i)):=by
 rw[Ha]
 exact NQ hN hi' hy hc hi S.toG (fun _ _ _=>aF nd h0 (.inl (iK hx)) (.inr (iK hx))) (fun _ _ _=>gQ) he hs hw hf
theorem kj.of {X:Cx} {nt:Nat} {N':List Str} {js:List Nat} {sc:Scope} (k:sc.kind=.function:=by rfl) (n:(sc.names.all fun y=>y.2 != .cell)=true:=by decide +kernel)
  (l:(sc.names.all fun y=>y.2 != .local || sc.names.lookup y.1==some .local)=true:=by decide +kernel) (al:(sc.names.all fun y=>y.2 != .free || (X.env.cells.lookup y.1).isSome)=true:=by rfl)
  (ln:N'.length=nt+js.length:=by rfl) (cp:(N'.drop nt).map some=js.map (fun j=>X.N[j]?):=by rfl) (ck:((N'.drop nt).all fun y=>X.env.kindOf y==some .cell&&sc.names.lookup y==some .free)=true:=by rfl):kj X nt N' js sc:=by
 have n':∀y∈sc.names,y.2≠.cell:=fun y hy=>by have:=wX.mp n y hy; simpa using this
 refine⟨k,n',mV l,jg al,al,ln,fun i j h=>?_,fun y h=>?_⟩
 ·have:=jl (fun l=>l[i]?) cp
  simp only[g8,CV,h,yt] at this
  cases e:N'[nt+i]? with
  | none=>rw[e] at this; cases this
  | some y=>rw[e] at this; exact Option.some.inj this
 ·have:=wX.mp ck y h
  simpa using this
theorem K7 (kp:Nat->Bool) (f:Nat->V) (i:Nat):((List.range (i+1)).filter kp).map f=((List.range i).filter kp).map f++(if kp i=true then[f i] else[]):=by
 rw[List.range_succ,List.filter_append,jm]
 cases h:kp i <;> simp[h]
theorem Qk (kp:Nat->Bool) (f:Nat->V) (i:Nat):(((List.range i).filter kp).map f).length<=i:=by
 rw[bR]
 exact nR (List.length_filter_le _ _) (by rw[Hv]; exact cW _)
theorem Gw {js:List Nat} {J:It} {tc:TT} {te:TE} {σ:St} {H:Hp} {Q:VK} {acc:Addr} {n:Nat} (xv:Nat->V) (kp:Nat->Bool) (f:Nat->V) (hn:n<=1000) (hacc:H acc=none)
  (go:∀i H',i<n->aC H H'->J.go i H') (yl:∀i H' x cZ,i<n->aC H H'->J.xO i H' x cZ->x=xv i/\cZ=H') (st:∀H',aC H H'->J.stop n H')
  (test:∀i H',i<n->aC H H'->∀R:Bool->Hp->Prop,R (kp i) H'->tc (some (xv i)::bO js σ) H' R)
  (val:∀i H',i<n->kp i=true->aC H H'->∀R:VK,R (f i) H'->te (some (xv i)::bO js σ) H' R)
  (fin:∀H',aC H H'->H' acc=some (.lst (((List.range n).filter kp).map f))->Q (.ref acc) H') :
  ∃W:Nat->Nat->List V->Hp->Prop,(∃m,W 0 m [] (upd H acc (.lst [])))/\∀i m ys H2,W i m ys H2 ->
   (J.stop i H2/\Q (.ref acc) H2)\/(J.go i H2/\∀x H3,J.xO i H2 x H3->d8 0 x (List.replicate 1 none++bO js σ) H3 fun σ' H'=>(σ'.drop 1=bO js σ/\σ'.length=(List.replicate 1 (none:Option V)++bO js σ).length)/\tc σ' H' fun b cZ=>
    if b=true then te σ' cZ fun y H4=>H4 acc=some (.lst ys)/\ys.length<sizeLine/\∃m',m'<m/\W (i+1) m' (ys++[y]) (upd H4 acc (.lst (ys++[y]))) else ∃m',m'<m/\W (i+1) m' ys cZ):=by
 refine⟨fun i m ys H2=>m=n-i/\i<=n/\ys=((List.range i).filter kp).map f/\aC H H2/\H2 acc=some (.lst ys),⟨_,rfl,e_ _,rfl,aO hacc _,az⟩,?_⟩
 rintro i m ys H2 ⟨rfl,hi,rfl,sm,hy⟩
 by_cases hlt:i<n
 ·refine .inr ⟨go i H2 hlt sm,fun x H3 y=>?_⟩
  obtain⟨rfl,rfl⟩:=yl i H2 x H3 hlt sm y
  refine⟨⟨rfl,by simp⟩,?_⟩
  refine test i _ hlt sm _ ?_
  have hs:=K7 kp f i
  cases h:kp i with
  | true=>
   rw[aM rfl]
   rw[h,aM rfl] at hs
   refine val i _ hlt h sm _ ⟨hy,bj (by have:=Qk kp f i; omega),n-(i+1),by omega,rfl,hlt,hs.symm,sm.dw hacc,az⟩
  | false=>
   rw[aK (by decide)]
   rw[h,aK (by decide),mL] at hs
   exact⟨n-(i+1),by omega,rfl,hlt,hs.symm,sm,hy⟩
 ·have e:i=n:=by omega
  subst e
  exact .inl ⟨st _ sm,fin _ sm hy⟩
theorem Ti {K:PySem.W.Frag} {js:List Nat} {a:Addr} {xs:List V} {tl:TE} {tc:TT} {te:TE} {σ:St} {H:Hp} {Q:VK} (kp:Nat->Bool) (f:Nat->V) (hl:∀R:VK,R (.ref a) H->tl σ H R) (ha:H a=some (.lst xs)) (hn:xs.length<=1000)
  (test:∀i x H',xs[i]?=some x->aC H H'->∀R:Bool->Hp->Prop,R (kp i) H'->tc (some x::bO js σ) H' R)
  (val:∀i x H',xs[i]?=some x->kp i=true->aC H H'->∀R:VK,R (f i) H'->te (some x::bO js σ) H' R)
  (fin:∀acc H',aC H H'->H acc=none->H' acc=some (.lst (((List.range xs.length).filter kp).map f))->Q (.ref acc) H'):gw 1 js (yI K tl) (d8 0) tc te σ H Q:=by
 refine hl _ ⟨a,rfl,⟨xs,gW.of ha⟩,fun acc hacc=>?_⟩
 have ht:∀H',aC H H'->gW K H' a xs:=fun H' s=>gW.of (s _ _ ha)
 have gx:∀i,i<xs.length->xs[i]?=some (xs.getD i .non):=fun i hi=>by rw[iB,eV hi]; rfl
 exact Gw (n:=xs.length) (fun i=>xs.getD i .non) kp f hn hacc (fun i H' hi s=>⟨xs,_,ht H' s,gx i hi⟩) (fun i H' x cZ hi s y=>by
   obtain⟨e,y⟩:=y
   have:=y xs (ht H' s)
   rw[gx i hi] at this
   exact⟨(Option.some.inj this).symm,e⟩) (fun H' s=>⟨xs,ht H' s,cW _⟩)
  (fun i H' hi s R hR=>test i _ H' (gx i hi) s R hR) (fun i H' hi hk s R hR=>val i _ H' (gx i hi) hk s R hR) fun H' s h=>fin acc H' s hacc h
section
variable {prog:Program} {w:World} {A:Around} {E:Value->Shared->Prop} {s:Shared}
theorem _root_.PySem.Heap.ExtBut.trans' {b:Addr} {h h1 h2:Heap} (x:Heap.ExtBut b h h1) (y:∀c o,h1.get? c=some o->h2.get? c=some o):Heap.ExtBut b h h2:=fun c o n e=>y c o (x c o n e)
theorem JM {α:Type} {Q:α->Shared->Prop} (hh:A.handled=none) (q:∀h' x,(∀c o,s.heap.get? c=some o->h'.get? c=some o)->(∃o,h'.get? x=some o/\o.cls=.type "StopIteration")->E (.ref x) { s with heap:=h' }) :
  wpAny (model prog w) A (Builtin.SmallTypes.stopIteration (α:=α)) Q E s:=by
 unfold Builtin.SmallTypes.stopIteration
 refine aN ?_
 simp only[newExc,newTuple]
 refine aN (q_ ?_ (by size_fits)); refine aN (m:=firstArgMember _ _) (sU (a:=Value.none) (by rfl) ?_)
 refine q_ ?_ (by size_fits); simp only[raiseNew]
 refine aN (wpAny_handled ?_); rw[hh]
 refine aN (bK (wpAny_throw ?_)); refine q _ _ (fun c o e=>?_) ⟨_,dX _ rfl,rfl⟩
 exact gb _ (gb _ e)
theorem We {it t:Addr} {i:Nat} {its:Array Value} {u:Value} {Q:Value->Shared->Prop} (hi:s.heap.IsTupleIter it t i) (ht:s.heap.IsTuple t its) (hu:its[i]?=some u)
  (q:∀h',h'.IsTupleIter it t (i+1)->Heap.SameBut it s.heap h'->Q u { s with heap:=h' }):wpAny (model prog w) A (Builtin.SmallTypes.nextOf (.ref it)) Q E s:=by
 obtain⟨oi,gi,ci,di⟩:=id hi
 obtain⟨ot,gt,_,nt,dt⟩:=ht
 have ty:=hi.typeIs
 have nn:¬((Value.ref t==Value.none)=true):=fun z=>Bool.noConfusion (show false=true from z)
 unfold Builtin.SmallTypes.nextOf
 refine aN (J5 (name:=Str.ofString "__next__") ty F.slot_tuple_iterator_next (uT F.slot_tuple_iterator_next ty F.entry_tuple_iterator_next ?_ (F.args_tuple_iterator_next_1 _)))
 show wpAny _ _ (field (.ref it) 0 >>= _) _ _ s; refine aN (iZ gi di (x:=.ref t) rfl ?_)
 show wpAny _ _ (if(Value.ref t==Value.none)=true then _ else _) _ _ s; rw[aK nn]
 show wpAny _ _ (field (.ref it) 1 >>= _) _ _ s; refine aN (iZ gi di (x:=.int i 0) rfl ?_)
 show wpAny _ _ (seqItems? (.ref t) >>= _) _ _ s; refine aN (oU gt dt ?_)
 simp only[uU,hu]
 have fin:∀h',(∃o,h'.get? it=some o/\o.cls=.type "tuple_iterator" /\ o.data=.fields #[.ref t,.int ((i+1:Nat):Int) 0])->Heap.SameBut it s.heap h'->Q u { s with heap:=h' }:=fun h' z sb=>q h' z sb
 refine aN (yq gi di (by simp) (bK ⟨u,rfl,bK (fin _ ?_ (Hz ..))⟩))
 refine⟨_,w6 _ gi (Obj.isFreed_of_fields (Obj.data_mapFields di _)),(Obj.cls_mapFields ..).trans ci,?_⟩
 rw[Obj.data_mapFields di]
 simp[rawInt]
theorem R4 {it t:Addr} {i:Nat} {its:Array Value} {Q:Value->Shared->Prop} (hh:A.handled=none) (hi:s.heap.IsTupleIter it t i) (ht:s.heap.IsTuple t its) (hu:its[i]?=none)
  (q:∀h' x,Heap.ExtBut it s.heap h'->(∃o,h'.get? x=some o/\o.cls=.type "StopIteration")->E (.ref x) { s with heap:=h' }):wpAny (model prog w) A (Builtin.SmallTypes.nextOf (.ref it)) Q E s:=by
 obtain⟨oi,gi,ci,di⟩:=id hi
 obtain⟨ot,gt,_,nt,dt⟩:=ht
 have ty:=hi.typeIs
 have nn:¬((Value.ref t==Value.none)=true):=fun z=>Bool.noConfusion (show false=true from z)
 unfold Builtin.SmallTypes.nextOf
 refine aN (J5 (name:=Str.ofString "__next__") ty F.slot_tuple_iterator_next (uT F.slot_tuple_iterator_next ty F.entry_tuple_iterator_next ?_ (F.args_tuple_iterator_next_1 _)))
 show wpAny _ _ (field (.ref it) 0 >>= _) _ _ s; refine aN (iZ gi di (x:=.ref t) rfl ?_)
 show wpAny _ _ (if(Value.ref t==Value.none)=true then _ else _) _ _ s; rw[aK nn]
 show wpAny _ _ (field (.ref it) 1 >>= _) _ _ s; refine aN (iZ gi di (x:=.int i 0) rfl ?_)
 show wpAny _ _ (seqItems? (.ref t) >>= _) _ _ s; refine aN (oU gt dt ?_)
 simp only[uU,hu]
 refine aN (uQ (aN (yq gi di (by simp) ?_)))
 exact JM (A:=A.in1) hh fun h' x k z=>q h' x ((Hz ..).extBut.trans' k) z
end
theorem rJ {prog:Program} {w:World} {A:Around} (hh:A.handled=none) {it t:Addr} (ne:t≠it) (its:Array Value):Draws prog w A it [it,t] its.size (fun i v=>its[i]?=some v) (fun i h=>h.IsTupleIter it t i/\h.IsTuple t its) where
 live:=fun i h z=>let ⟨⟨o,e,_⟩,_⟩:=z; ⟨o,e⟩
 frame:=fun i h h' z k=>⟨z.1.at fun o e=>k it jo o e,z.2.at fun o e=>k t (il _ jo) o e⟩
 item:=fun i s Q E hi z q=>by
  refine We z.1 z.2 (u:=its[i]) (Cr hi) fun h' z' sb=>?_
  exact q _ h' s.toks (Cr hi) ⟨z',z.2.extBut sb.extBut ne⟩ sb
 done:=fun s Q E z q=>R4 hh z.1 z.2 (by simp) q
abbrev tiH (h:Heap) (t:Addr):Heap:=h.push { cls:=.type "tuple_iterator",data:=.fields #[.ref t,.int 0 0] }
abbrev enH (h:Heap) (t:Addr):Heap:=(tiH h t).push { cls:=.type "enumerate",data:=.fields #[.none,.bool false,.ref h.objs.size,rawInt 0,.none,.none] }
set_option maxHeartbeats 1000000 in
theorem O2 (t:Addr) (its:Array Value) (n:Nat) (dc:Option Addr) (sl:Array (Option Value)) :
  Meets (Builtin.«enumerate.__new__» ⟨[.type "enumerate",.ref t],[]⟩) (fun _ R s=>s.heap.get? t=some ⟨.type "tuple",dc,.seq its n,sl⟩/\R (.ok (.ret (.ref (tiH s.heap t).objs.size))) { s with heap:=enH s.heap t }):=
 .of_wp fun prog w A R s z=>by
  obtain⟨hp,g,d,tk,os⟩:=s
  obtain⟨ht,z⟩:=z
  have sub:=sub_enumerate
  have hT:Heap.IsTuple (Shared.heap ⟨hp,g,d,tk,os⟩) t its:=⟨_,ht,rfl,n,rfl⟩
  wp_walk using AutoSeq1.wpAny_loadPart' ht
  refine wpAny_stack_any fun st=>bK ?_
  split
  ·rename_i c _ _ _ _ _
   cases(c==Value.type "enumerate") <;> (wp_walk using AutoSeq1.wpAny_loadPart' ht,J0 hT; exact⟨_,rfl,z⟩)
  ·wp_walk using AutoSeq1.wpAny_loadPart' ht,J0 hT; exact⟨_,rfl,z⟩
theorem GC {prog:Program} {w:World} {A:Around} {E:Value->Shared->Prop} {s:Shared} {t:Addr} {its:Array Value} {Q:Value->Shared->Prop} (hT:s.heap.IsTuple t its)
  (q:∀h',IsEnum h' (s.heap.objs.size+1) s.heap.objs.size 0 .none->h'.IsTupleIter s.heap.objs.size t 0->(∀b o,s.heap.get? b=some o->h'.get? b=some o)->Q (.ref (s.heap.objs.size+1)) { s with heap:=h' }) :
  wpAny (model prog w) A (call (.type "enumerate") [.ref t]) Q E s:=by
 obtain⟨⟨c,dc,dt,sl⟩,ht,hc,n,hd⟩:=hT
 cases(show c=.type "tuple" from hc)
 cases(show dt=.seq its n from hd)
 have sz:(tiH s.heap t).objs.size=s.heap.objs.size+1:=mK ..
 have g1:(enH s.heap t).get? (tiH s.heap t).objs.size=some _:=dX _ rfl
 have g0:(enH s.heap t).get? s.heap.objs.size=some _:=gb _ (dX _ rfl)
 refine callType_new F.called_enumerate (by decide) (F.typeCall_enumerate_1 _) (F.newCall_enumerate_1 _) (fun x=>F.args_object_init_2 x _) F.entry_enumerate_new (O2 t its n dc sl) ⟨ht,?_⟩
 show _/\_
 rw[sz] at g1 ⊢
 exact⟨⟨_,g1,rfl⟩,q _ g1 ⟨_,g0,rfl,rfl⟩ fun b o e=>gb _ (gb _ e)⟩
def Xb (K:PySem.W.Frag) (a:Addr):It:=
 ⟨fun i H=>∃xs x,cA K H a xs/\xs[i]?=some x,fun i H x H'=>∃p y,H p=none/\x=.ref p/\H'=upd H p (.tup [.int i,y])/\∀xs,cA K H a xs->xs[i]?=some y,fun i H=>∃xs,cA K H a xs/\xs.length=i⟩
theorem Ex {P:Program} {w:World} {K:PySem.W.Frag} {elts:List Expr} {x1} {tp:Pos} (a e it:Addr) (hne:e≠it):Turn P w K (.Tuple elts x1 tp) (Xb K a) [e,it] e (fun i h=>(∃old,IsEnum h e it (i:Nat) old)/\h.IsTupleIter it a i) where
 mem:=by simp
 obj:=fun i h st b hb=>by
  obtain⟨⟨old,he⟩,o,ho,c,d⟩:=st
  rcases b8.mp hb with z | z
  ·rw[z]; exact⟨_,he,fun v q=>by cases q⟩
  ·rw[fj.mp z]; exact⟨o,ho,fun v q=>by rw[d] at q; cases q⟩
 keep:=fun i h h' st k=>by
  obtain⟨⟨old,he⟩,hi⟩:=st
  exact⟨⟨old,k e (by simp) _ he⟩,hi.at fun o q=>k it (by simp) o q⟩
 item:=by
  intro X hP hw hK hc i pins s σ H E I hf st hg
  subst hP hw hK
  obtain⟨⟨old,he⟩,hi⟩:=st
  obtain⟨xs,x,hq,hx⟩:=hg
  obtain⟨its,rv,p,hz⟩:=I.tuple hq
  obtain⟨u,hu,ru⟩:=rv.get hx
  have fe:=hf e (by simp)
  have fi:=hf it (by simp)
  have pT:s.heap.IsTuple a its.toArray:=p
  have nea:e≠a:=fun z=>by
   obtain⟨o,g,c,_⟩:=pT
   rw[<- z,he] at g
   cases g
   exact absurd (show Value.type "enumerate" = Value.type "tuple" from c) (by decide)
  have nia:a≠it:=fun z=>by
   obtain⟨o,g,c,_⟩:=pT
   obtain⟨o',g',c',_⟩:=hi
   rw[z,g'] at g
   cases g
   rw[c'] at c
   exact absurd c (by decide)
  have hlt:i<its.toArray.size:=by have:=(fK.mp hu).1; simpa using this
  refine wpAny_pyNext_enum_itemD (rJ (A:=X.A.in1) (show X.A.in1.handled=none from I.ok.hd hc) nia its.toArray) he (show _/\_ from⟨hi,pT⟩) hlt hne (fun z=>by rcases b8.mp z with y | y; exact hne y; exact nea (fj.mp y)) fun u' h' tk hu' eo hi' ht hsz kk=>?_
  have eu:u'=u:=by
   have:its[i]?=some u':=by simpa using hu'
   rw[hu] at this; exact(Option.some.inj this).symm
  subst eu
  have fr:H s.heap.objs.size=none:=I.hok.fresh (cW _)
  have I1:Inv X pins σ (upd H s.heap.objs.size (.tup [.int i,x])) { s with heap:=s.heap.push { cls:=.type "tuple",data:=.seq #[.int i tk,u'] },toks:=tk }:=
   I.laid (t':=tk) (fun b v z=>gb _ z) (cW _) ⟨(by show 2<=sizeLine; decide),[.int i tk,u'],.cons ⟨_,rfl⟩ (.cons ru .nil),⟨_,dX _ rfl,rfl,_,rfl⟩⟩
  have le:e<s.heap.objs.size:=b_ he
  have li:it<s.heap.objs.size:=by obtain⟨o,ho,_⟩:=hi; exact b_ ho
  have WM:ie X pins (upd H s.heap.objs.size (.tup [.int i,x])) e:=⟨by rw[aL (gk le)]; exact fe.1,fe.2⟩
  have fi1:ie X pins (upd H s.heap.objs.size (.tup [.int i,x])) it:=⟨by rw[aL (gk li)]; exact fi.1,fi.2⟩
  have I2:Inv X pins σ (upd H s.heap.objs.size (.tup [.int i,x])) { s with heap:=h',toks:=tk+1 }:=I1.Q4 (t':=tk+1) (fun b o z1 z2 z=>by
   by_cases y:b=s.heap.objs.size
   ·subst y
    rw[dX _ rfl] at z
    cases z
    exact ht
   ·rcases Heap.get?_push_cases z with v | v
    ·exact absurd v.1 y
    ·exact kk b o z1 z2 v) WM fi1
  refine⟨_,rfl,wpAny_letOwnedTupleGo_enum eo fun h2 en sb=>⟨.ref s.heap.objs.size,_,I2.turned (it:=e) (t':=tk+1) (fun b o hb z=>sb.extBut b o hb z) WM.1 WM.2.1 WM.2.2.2.1 WM.2.2.2.2.1 WM.2.2.2.2.2,rfl,⟨_,x,fr,rfl,rfl,fun ys hy=>by rw[I.qQ hy hq]; exact hx⟩,⟨⟨_,en⟩,?_⟩,fun b hb=>?_⟩⟩
  ·exact hi'.1.at fun o z=>sb.extBut it o (Ne.symm hne) z
  ·rcases b8.mp hb with z | z
   ·rw[z]; exact WM.1
   ·rw[fj.mp z]; exact fi1.1
 done:=by
  intro X hP hw hK hc i pins s σ H E I hf st hg
  subst hP hw hK
  obtain⟨⟨old,he⟩,hi⟩:=st
  obtain⟨xs,hq,hx⟩:=hg
  obtain⟨its,rv,p,hz⟩:=I.tuple hq
  have hl:=rv.length
  have pT:s.heap.IsTuple a its.toArray:=p
  obtain⟨f0,f1,f2,f3,f4,f5⟩:=hf it (by simp)
  have nia:a≠it:=fun z=>by
   obtain⟨o,g,c,_⟩:=pT
   obtain⟨o',g',c',_⟩:=hi
   rw[z,g'] at g
   cases g
   rw[c'] at c
   exact absurd c (by decide)
  have D:=rJ (prog:=X.prog) (w:=X.w) (A:=X.A.in1) (show X.A.in1.handled=none from I.ok.hd hc) nia its.toArray
  refine wpAny_pyNext_enum_endD D he (show _/\_ from⟨?_,pT⟩) fun h' eb=>⟨rfl,I.turned (t':=s.toks) (fun b o hb z=>eb b o hb z) f0 f1 f3 f4 f5⟩
  have e:its.toArray.size=i:=by simp; omega
  rw[e]; exact hi
 self:=fun _ _ _ _ _ st h=>by
  obtain⟨⟨old,he⟩,_⟩:=st
  exact wpAny_pyIter_enum he h
section
variable {X:Cx}
def Py (K:PySem.W.Frag) (ta:TA):TI:=fun σ H R=>ta σ H fun vs H1=>∃a,vs=[.ref a]/\(∃xs,cA K H1 a xs)/\R (Xb K a) H1
theorem N_ {K:PySem.W.Frag} {e:Expr} {elts:List Expr} {x1} {tp p pos:Pos} {ta:TA} (hK:X.K=K) (hm:X.mg "enumerate" = none) (ha:PA X [e] ta) (hg:Gl X "enumerate" := by rfl) (h1:cG e=true:=by rfl) :
  PI X (.Tuple elts x1 tp) (.Call (.Name "enumerate" p) [e] [] pos) (Py K ta):=by
 subst hK
 refine .mk ?_
 intro pins s σ H R I h
 refine uW (lA I hg hm Ba ?_ (by decide) (by decide))
 refine PyProof.Rows.callWith_type1 (cB (ha pos pins s σ H _ I h) fun us s1 ⟨vs,H1,I1,r1,q1⟩=>?_) (cP h1) (cN (es:=[]) rfl)
 obtain⟨a,rfl,⟨xs,hq⟩,q⟩:=q1
 obtain⟨u,rfl,ru⟩:=r1.one
 cases ru
 obtain⟨its,rv,pl,hz⟩:=I1.tuple hq
 refine GC (show s1.heap.IsTuple a its.toArray from pl) fun h' he hi kk=>?_
 have I2:Inv X pins σ H1 { s1 with heap:=h' }:=I1.kept (t':=s1.toks) kk
 have f1:H1 (s1.heap.objs.size+1)=none:=I1.hok.fresh (Nat.le_succ _)
 have f0:H1 s1.heap.objs.size=none:=I1.hok.fresh (cW _)
 refine wpAny_pyIter_enum he ⟨s1.heap.objs.size+1,_,_,Xb X.K a,H1,rfl,I2,Ex a (s1.heap.objs.size+1) s1.heap.objs.size (Nat.succ_ne_self _),⟨⟨_,he⟩,hi⟩,fun b hb=>?_,q⟩
 rcases b8.mp hb with z | z
 ·rw[z]; exact I1.xF (Nat.le_succ _) f1
 ·rw[fj.mp z]; exact I1.xF (cW _) f0
end
end L2
namespace L2
open PySem PySem.Spec PyProof.Rows
structure Xx (z TI TO i1 i2:Addr) (f1 f2:List Addr):Prop where
 a1:TI≠z
 a2:TO≠z
 a3:TI≠TO
 a4:i1≠z
 a5:i2≠z
 a6:TO≠i1
 a7:TO≠i2
 a8:i1≠i2
 b1:z∉f1
 b2:z∉f2
 b3:TO∉f1
 b4:TO∉f2
 b5:i1∉f2
 b6:i2∉f1
section
variable {prog:Program} {w:World} {A:Around} {E:Value->Shared->Prop} {s:Shared}
theorem JN {b:Addr} {h h':Heap} {f:List Addr} (sb:Heap.SameBut b h h') (hb:b∉f):∀c∈f,∀o,h.get? c=some o->h'.get? c=some o:=fun c hc o e=>sb.extBut c o (fun z=>hb (z▸hc)) e
theorem Ma {z TI TO i1 i2:Addr} {f1 f2:List Addr} {n1 n2 k:Nat} {P1 P2:Nat->Value->Prop} {S1 S2:Nat->Heap->Prop} {a b:Value} {Q:Value->Shared->Prop} (Z:Xx z TI TO i1 i2 f1 f2) (D1:Draws prog w A i1 f1 n1 P1 S1) (D2:Draws prog w A i2 f2 n2 P2 S2)
  (hz:IsZip s.heap z TI TO .none) (hi:IsPair s.heap TI (.ref i1) (.ref i2)) (ho:IsPair s.heap TO a b) (s1:S1 k s.heap) (s2:S2 k s.heap) (k1:k<n1) (k2:k<n2)
  (q:∀x y h' tk,P1 k x->P2 k y->IsZip h' z TI TO (rawInt s.heap.objs.size)->IsPair h' TO x y->S1 (k+1) h'->S2 (k+1) h'->IsPair h' s.heap.objs.size x y->h'.objs.size=s.heap.objs.size+1->(∀c o,c≠z->c≠TO->c≠i1->c≠i2->s.heap.get? c=some o->h'.get? c=some o)->Q (.ref s.heap.objs.size) { s with heap:=h',toks:=tk }) :
  wpAny (model prog w) A (Builtin.«zip.__next__» ⟨[.ref z],[]⟩) (fun fin s'=>∃v,fin=.done (.ret v)/\Q v s') E s:=by
 show wpAny _ _ (field (.ref z) 2 >>= _) _ _ _; refine aN (iZ hz rfl (x:=.bool false) rfl ?_)
 show wpAny _ _ (field (.ref z) 3 >>= _) _ _ _; refine aN (iZ hz rfl (x:=.ref TI) rfl (aN (oU hi rfl ?_)))
 show wpAny _ _ (Builtin.SmallTypes.ownedTupleIsFree (.ref z) >>= _) _ _ _; unfold Builtin.SmallTypes.ownedTupleIsFree
 refine aN (aN (iZ hz rfl (x:=.none) rfl (bK ?_))); simp only[if_true]
 refine aN (uQ (aN (iZ hz rfl (x:=.ref TO) rfl (aN (J3 hz (by simp) fun hA zA sA=>?_)))))
 replace zA:IsZip hA z TI TO .ellipsis:=zA
 refine aN ?_; simp only[List.zipIdx_cons,List.zipIdx_nil,yr,List.forIn_nil]
 refine aN (aN (wpAny_onRaise ?_)); show wpAny _ _ (Builtin.SmallTypes.nextOf (.ref i1) >>= _) _ _ _
 refine aN (D1.item k _ _ _ k1 (D1.frame _ _ _ s1 (JN sA Z.b1)) fun x hB tB pB stb sB=>bK ?_)
 have oB:IsPair hB TO a b:=sB.extBut _ _ Z.a6 (sA.extBut _ _ Z.a2 ho)
 have uB:S2 k hB:=D2.frame _ _ _ (D2.frame _ _ _ s2 (JN sA Z.b2)) (JN sB Z.b5)
 refine aN (oU oB rfl (aN (wpAny_updateSeq_pair oB fun hC oC sC=>?_)))
 replace oC:IsPair hC TO x b:=oC
 refine aN (uX (bK (aN (aN (wpAny_onRaise ?_))))); show wpAny _ _ (Builtin.SmallTypes.nextOf (.ref i2) >>= _) _ _ _
 refine aN (D2.item k _ _ _ k2 (D2.frame _ _ _ uB (JN sC Z.b4)) fun y hD tD pD std sD=>bK ?_)
 have oD:IsPair hD TO x b:=sD.extBut _ _ Z.a7 oC
 refine aN (oU oD rfl (aN (wpAny_updateSeq_pair oD fun hF oF sF=>?_)))
 replace oF:IsPair hF TO x y:=oF
 refine aN (uX (bK (bK (aN (oU oF rfl (aN (wpAny_newTuple ?_)))))))
 have zF:IsZip hF z TI TO .ellipsis:=sF.extBut _ _ Z.a2.symm (sD.extBut _ _ Z.a5.symm (sC.extBut _ _ Z.a2.symm (sB.extBut _ _ Z.a4.symm zA)))
 have size:hF.objs.size=s.heap.objs.size:=by rw[sF.1,sD.1,sC.1,sB.1,sA.1]
 have lz:z<hF.objs.size:=b_ zF
 show wpAny _ _ (Builtin.SmallTypes.ownedTupleHandOut (.ref z) (.ref hF.objs.size) >>= _) _ _ _; unfold Builtin.SmallTypes.ownedTupleHandOut
 have zG:IsZip (hF.push { cls:=.type "tuple",data:=.seq #[x,y] }) z TI TO .ellipsis:=gb _ zF
 refine aN (aN (J3 zG (by simp) fun hI zI sI=>?_))
 replace zI:IsZip hI z TI TO (rawInt hF.objs.size):=zI
 refine J3 zI (by simp) fun hJ zJ sJ=>bK ⟨_,rfl,?_⟩
 replace zJ:IsZip hJ z TI TO (rawInt hF.objs.size):=zJ
 have up:∀c o,c≠z->hF.get? c=some o->hJ.get? c=some o:=fun c o n e=>sJ.extBut _ _ n (sI.extBut _ _ n (gb _ e))
 have tJ:IsPair hJ hF.objs.size x y:=sJ.extBut _ _ (Cz lz) (sI.extBut _ _ (Cz lz) (dX _ rfl))
 have szJ:hJ.objs.size=hF.objs.size+1:=by rw[sJ.1,sI.1,mK]
 have kB:∀c o,c≠z->c≠TO->c≠i1->c≠i2->s.heap.get? c=some o->hF.get? c=some o:=fun c o n1 n2 n3 n4 e=>sF.extBut _ _ n2 (sD.extBut _ _ n4 (sC.extBut _ _ n2 (sB.extBut _ _ n3 (sA.extBut _ _ n1 e))))
 have u1:S1 (k+1) hF:=D1.frame _ _ _ (D1.frame _ _ _ (D1.frame _ _ _ stb (JN sC Z.b3)) (JN sD Z.b6)) (JN sF Z.b3)
 have u2:S2 (k+1) hF:=D2.frame _ _ _ std (JN sF Z.b4)
 show Q (.ref hF.objs.size) _
 rw[size] at zJ tJ szJ ⊢
 exact q x y hJ tD pB pD zJ (up _ _ Z.a2 oF) (D1.frame _ _ _ u1 fun c hc o e=>up c o (fun z'=>Z.b1 (z'▸hc)) e) (D2.frame _ _ _ u2 fun c hc o e=>up c o (fun z'=>Z.b2 (z'▸hc)) e) tJ szJ fun c o n1 n2 n3 n4 e=>up c o n1 (kB c o n1 n2 n3 n4 e)
theorem Jx {z TI TO i1 i2:Addr} {f1 f2:List Addr} {n1 n2 k:Nat} {P1 P2:Nat->Value->Prop} {S1 S2:Nat->Heap->Prop} {a b:Value} {Q:Fin->Shared->Prop} (Z:Xx z TI TO i1 i2 f1 f2) (D1:Draws prog w A i1 f1 n1 P1 S1) (D2:Draws prog w A i2 f2 n2 P2 S2)
  (hz:IsZip s.heap z TI TO .none) (hi:IsPair s.heap TI (.ref i1) (.ref i2)) (ho:IsPair s.heap TO a b) (s1:S1 k s.heap) (s2:S2 k s.heap) (kk:k=n1\/(k<n1/\k=n2))
  (q:∀h' e,(∀c o,c≠z->c≠TO->c≠i1->c≠i2->s.heap.get? c=some o->h'.get? c=some o)->(∃o,h'.get? e=some o/\o.cls=.type "StopIteration")->∀tk,E (.ref e) { s with heap:=h',toks:=tk }) :
  wpAny (model prog w) A (Builtin.«zip.__next__» ⟨[.ref z],[]⟩) Q E s:=by
 show wpAny _ _ (field (.ref z) 2 >>= _) _ _ _; refine aN (iZ hz rfl (x:=.bool false) rfl ?_)
 show wpAny _ _ (field (.ref z) 3 >>= _) _ _ _; refine aN (iZ hz rfl (x:=.ref TI) rfl (aN (oU hi rfl ?_)))
 show wpAny _ _ (Builtin.SmallTypes.ownedTupleIsFree (.ref z) >>= _) _ _ _; unfold Builtin.SmallTypes.ownedTupleIsFree
 refine aN (aN (iZ hz rfl (x:=.none) rfl (bK ?_))); simp only[if_true]
 refine aN (uQ (aN (iZ hz rfl (x:=.ref TO) rfl (aN (J3 hz (by simp) fun hA zA sA=>?_)))))
 replace zA:IsZip hA z TI TO .ellipsis:=zA
 refine aN ?_; simp only[List.zipIdx_cons,List.zipIdx_nil,yr,List.forIn_nil]
 refine aN (aN (wpAny_onRaise ?_)); show wpAny _ _ (Builtin.SmallTypes.nextOf (.ref i1) >>= _) _ _ _
 rcases kk with e1 | ⟨k1,e2⟩
 ·have Z_:=s1
  rw[e1] at Z_
  refine aN (D1.done _ _ _ (D1.frame _ _ _ Z_ (JN sA Z.b1)) fun hB x sB hx=>?_)
  obtain⟨ox,gx,cx⟩:=hx
  have zB:IsZip hB z TI TO .ellipsis:=sB _ _ Z.a4.symm zA
  have nx:x≠z:=fun y=>by subst y; rw[zB] at gx; cases gx; exact absurd (show Value.type "zip" = Value.type "StopIteration" from cx) (by decide)
  refine J3 zB (by simp) fun hC _ sC=>q hC x (fun c o m1 _ m3 _ e=>sC.extBut _ _ m1 (sB _ _ m3 (sA.extBut _ _ m1 e))) ⟨ox,sC.extBut _ _ nx gx,cx⟩ _
 ·refine aN (D1.item k _ _ _ k1 (D1.frame _ _ _ s1 (JN sA Z.b1)) fun x hB tB pB stb sB=>bK ?_)
  have oB:IsPair hB TO a b:=sB.extBut _ _ Z.a6 (sA.extBut _ _ Z.a2 ho)
  have uB:S2 k hB:=D2.frame _ _ _ (D2.frame _ _ _ s2 (JN sA Z.b2)) (JN sB Z.b5)
  refine aN (oU oB rfl (aN (wpAny_updateSeq_pair oB fun hC oC sC=>?_)))
  refine aN (uX (bK (aN (aN (wpAny_onRaise ?_))))); show wpAny _ _ (Builtin.SmallTypes.nextOf (.ref i2) >>= _) _ _ _
  have uC:S2 n2 hC:=by rw[<- e2]; exact D2.frame _ _ _ uB (JN sC Z.b4)
  refine aN (D2.done _ _ _ uC fun hD v sD hx=>?_)
  obtain⟨ox,gx,cx⟩:=hx
  have zD:IsZip hD z TI TO .ellipsis:=sD _ _ Z.a5.symm (sC.extBut _ _ Z.a2.symm (sB.extBut _ _ Z.a4.symm zA))
  have nx:v≠z:=fun y=>by subst y; rw[zD] at gx; cases gx; exact absurd (show Value.type "zip" = Value.type "StopIteration" from cx) (by decide)
  refine J3 zD (by simp) fun hF _ sF=>q hF v (fun c o m1 m2 m3 m4 e=>sF.extBut _ _ m1 (sD _ _ m4 (sC.extBut _ _ m2 (sB.extBut _ _ m3 (sA.extBut _ _ m1 e))))) ⟨ox,sF.extBut _ _ nx gx,cx⟩ _
theorem Vl {z TI TO i1 i2:Addr} {f1 f2:List Addr} {n1 n2 k:Nat} {P1 P2:Nat->Value->Prop} {S1 S2:Nat->Heap->Prop} {a b:Value} {Q:Option Value->Shared->Prop} (Z:Xx z TI TO i1 i2 f1 f2) (D1:Draws prog w A.in1 i1 f1 n1 P1 S1) (D2:Draws prog w A.in1 i2 f2 n2 P2 S2)
  (hz:IsZip s.heap z TI TO .none) (hi:IsPair s.heap TI (.ref i1) (.ref i2)) (ho:IsPair s.heap TO a b) (s1:S1 k s.heap) (s2:S2 k s.heap) (k1:k<n1) (k2:k<n2)
  (q:∀x y h' tk,P1 k x->P2 k y->IsZip h' z TI TO (rawInt s.heap.objs.size)->IsPair h' TO x y->S1 (k+1) h'->S2 (k+1) h'->IsPair h' s.heap.objs.size x y->h'.objs.size=s.heap.objs.size+1->(∀c o,c≠z->c≠TO->c≠i1->c≠i2->s.heap.get? c=some o->h'.get? c=some o)->Q (some (.ref s.heap.objs.size)) { s with heap:=h',toks:=tk }) :
  wpAny (model prog w) A (pyNext (.ref z)) Q E s:=by
 have ty:s.TypeIs (.ref z) "zip" := ⟨_,hz,rfl⟩
 unfold pyNext
 refine aN (wpAny_attempt (J5 (name:=Str.ofString "__next__") ty F.slot_zip_next (uT F.slot_zip_next ty F.entry_zip_next ?_ (F.args_zip_next_1 _))))
 exact Ma Z D1 D2 hz hi ho s1 s2 k1 k2 fun x y h' tk p1 p2 v1 v2 v3 v4 v5 v6 v7=>bK (q x y h' tk p1 p2 v1 v2 v3 v4 v5 v6 v7)
theorem QS {z TI TO i1 i2:Addr} {f1 f2:List Addr} {n1 n2 k:Nat} {P1 P2:Nat->Value->Prop} {S1 S2:Nat->Heap->Prop} {a b:Value} {Q:Option Value->Shared->Prop} (Z:Xx z TI TO i1 i2 f1 f2) (D1:Draws prog w A.in1 i1 f1 n1 P1 S1) (D2:Draws prog w A.in1 i2 f2 n2 P2 S2)
  (hz:IsZip s.heap z TI TO .none) (hi:IsPair s.heap TI (.ref i1) (.ref i2)) (ho:IsPair s.heap TO a b) (s1:S1 k s.heap) (s2:S2 k s.heap) (kk:k=n1\/(k<n1/\k=n2))
  (q:∀h' tk,(∀c o,c≠z->c≠TO->c≠i1->c≠i2->s.heap.get? c=some o->h'.get? c=some o)->Q none { s with heap:=h',toks:=tk }):wpAny (model prog w) A (pyNext (.ref z)) Q E s:=by
 have ty:s.TypeIs (.ref z) "zip" := ⟨_,hz,rfl⟩
 unfold pyNext
 refine aN (wpAny_attempt (J5 (name:=Str.ofString "__next__") ty F.slot_zip_next (uT F.slot_zip_next ty F.entry_zip_next ?_ (F.args_zip_next_1 _))))
 refine Jx Z D1 D2 hz hi ho s1 s2 kk fun h' e k hx tk=>?_
 obtain⟨o,g,c⟩:=hx
 exact aN (wpAny_isInstance (T:="StopIteration") (b:=true) ⟨o,g,c⟩ isSubtype_stop (bK (q _ tk k)))
end
abbrev Z3 (h:Heap) (t1 t2:Addr):Heap:=tiH (tiH h t1) t2
abbrev Z2 (h:Heap) (t1 t2:Addr):Heap:=(Z3 h t1 t2).push { cls:=.type "tuple",data:=.seq #[.ref h.objs.size,.ref (tiH h t1).objs.size] }
abbrev Z1 (h:Heap) (t1 t2:Addr):Heap:=(Z2 h t1 t2).push { cls:=.type "tuple",data:=.seq #[.none,.none] }
abbrev Vo (h:Heap) (t1 t2:Addr):Heap:=(Z1 h t1 t2).push { cls:=.type "zip",data:=.fields #[.none,.bool false,.bool false,.ref (Z3 h t1 t2).objs.size,.ref (Z2 h t1 t2).objs.size] }
theorem R_ (t1 t2:Addr) (xs ys:Array Value):Meets (Builtin.«zip.__new__» ⟨[.type "zip",.ref t1,.ref t2],[]⟩) (fun _ R s=>s.heap.IsTuple t1 xs/\s.heap.IsTuple t2 ys/\R (.ok (.ret (.ref (Z1 s.heap t1 t2).objs.size))) { s with heap:=Vo s.heap t1 t2 }):=
 .of_wp fun prog w A R s z=>by
  obtain⟨hp,g,d,tk,os⟩:=s
  obtain⟨hx,hy,z⟩:=z
  have sub:=sub_zip
  have hX:Heap.IsTuple (Shared.heap ⟨hp,g,d,tk,os⟩) t1 xs:=hx
  have hY:Heap.IsTuple (Shared.heap ⟨tiH hp t1,g,d,tk,os⟩) t2 ys:=hy.push _
  wp_walk using J0 hX,J0 hY
  exact⟨_,rfl,z⟩
theorem La {prog:Program} {w:World} {A:Around} {E:Value->Shared->Prop} {s:Shared} {t1 t2:Addr} {xs ys:Array Value} {Q:Value->Shared->Prop} (hx:s.heap.IsTuple t1 xs) (hy:s.heap.IsTuple t2 ys)
  (q:∀h',IsZip h' (s.heap.objs.size+4) (s.heap.objs.size+2) (s.heap.objs.size+3) .none->IsPair h' (s.heap.objs.size+2) (.ref s.heap.objs.size) (.ref (s.heap.objs.size+1))->IsPair h' (s.heap.objs.size+3) .none .none ->
   h'.IsTupleIter s.heap.objs.size t1 0->h'.IsTupleIter (s.heap.objs.size+1) t2 0->(∀c o,s.heap.get? c=some o->h'.get? c=some o)->Q (.ref (s.heap.objs.size+4)) { s with heap:=h' }) :
  wpAny (model prog w) A (call (.type "zip") [.ref t1,.ref t2]) Q E s:=by
 have n1:(tiH s.heap t1).objs.size=s.heap.objs.size+1:=mK ..
 have n2:(Z3 s.heap t1 t2).objs.size=s.heap.objs.size+2:=by rw[mK,n1]
 have n3:(Z2 s.heap t1 t2).objs.size=s.heap.objs.size+3:=by rw[mK,n2]
 have n4:(Z1 s.heap t1 t2).objs.size=s.heap.objs.size+4:=by rw[mK,n3]
 have up:∀c o,s.heap.get? c=some o->(Vo s.heap t1 t2).get? c=some o:=fun c o e=>gb _ (gb _ (gb _ (gb _ (gb _ e))))
 have v5:(Vo s.heap t1 t2).get? (Z1 s.heap t1 t2).objs.size=some _:=dX _ rfl
 have v4:(Vo s.heap t1 t2).get? (Z2 s.heap t1 t2).objs.size=some _:=gb _ (dX _ rfl)
 have v3:(Vo s.heap t1 t2).get? (Z3 s.heap t1 t2).objs.size=some _:=gb _ (gb _ (dX _ rfl))
 have v2:(Vo s.heap t1 t2).get? (tiH s.heap t1).objs.size=some _:=gb _ (gb _ (gb _ (dX _ rfl)))
 have v1:(Vo s.heap t1 t2).get? s.heap.objs.size=some _:=gb _ (gb _ (gb _ (gb _ (dX _ rfl))))
 refine callType_new F.called_zip (by decide) (F.typeCall_zip_2 _ _) (F.newCall_zip_2 _ _) (fun x=>F.args_object_init_3 x _ _) F.entry_zip_new (R_ t1 t2 xs ys) ⟨hx,hy,?_⟩
 show _/\_
 rw[n2,n3,n4] at v5
 rw[n1,n2] at v3
 rw[n3] at v4
 rw[n1] at v2
 rw[n4]
 exact⟨⟨_,v5,rfl⟩,q _ v5 v3 v4 ⟨_,v1,rfl,rfl⟩ ⟨_,v2,rfl,rfl⟩ up⟩
theorem Inv.zr {X:Cx} {pins:List (Addr×Obj)} {σ:St} {H:Hp} {s:Shared} {h':Heap} {t':Nat} {fp:List Addr} (I:Inv X pins σ H s) (k:∀b o,b∉fp->s.heap.get? b=some o->h'.get? b=some o) (hf:∀b∈fp,ie X pins H b) :
  Inv X pins σ H { s with heap:=h',toks:=t' }:=by
 have ni:∀b u,H b=some u->b∉fp:=fun b u q hb=>by rw[(hf b hb).1] at q; cases q
 refine I.step (g':=s.gens) (d':=s.drawn) (ch:=fp) (fun b hb=>?_) (fun b o _ _ hc q _=>k b o hc q) (fun b o _ _ hc q _=>⟨o.slots,k b o hc q⟩) (fun _ _ _ _ n=>n) (fun b o hc q=>⟨o,k b o hc q⟩) (fun _ _ q=>q) (fun _ _ _ q=>q)
  (fun b ps q=>⟨#[],by rw[q]; simp⟩) (fun m hm=>?_) (fun b u q=>?_) I.bare
 ·obtain⟨_,f1,_,f3,f4,f5⟩:=hf b hb
  exact⟨f3,(hf b hb).2.1,f4,f5⟩
 ·obtain⟨o,es,ep,ho,r⟩:=hm
  exact⟨o,es,ep,k _ o (fun hb=>(hf _ hb).2.1 rfl) ho,r⟩
 ·refine(I.hok b u q).stay (fun c v hc z=>k c v ?_ z) (fun _ z=>z) fun _ _ z=>z
  rcases hc with z | z
  ·rw[z]; exact ni b u q
  ·exact ni c _ z
theorem Yw {X:Cx} {pins:List (Addr×Obj)} {σ:St} {H:Hp} {s:Shared} {a b:Addr} {xs:List V} (I:Inv X pins σ H s) (hq:cA X.K H a xs) (hf:ie X pins H b):a≠b:=fun z=>by
 rcases hq with h | ⟨o,its,n,hk,_⟩
 ·rcases h with h | ⟨o,h⟩ <;> (rw[z,hf.1] at h; cases h)
 ·have e:X.base.get? a=some o:=I.ok.mod.Ls a o hk
  rcases hf.2.2.2.1 with y | y
  ·exact I.ok.Gd a o e (z▸y)
  ·have l:=b_ e
   have m:=I.ok.Qy
   rw[z] at l
   exact absurd (jV l (nR m y)) (sV _)
structure Knd where
 Sq:PySem.W.Frag->Hp->Addr->List V->Prop
 It:Heap->Addr->Addr->Nat->Prop
 Pl:Heap->Addr->Array Value->Prop
 obj:∀{h:Heap} {i a:Addr} {n:Nat},It h i a n->∃o,h.get? i=some o/\∀v,o.data≠.cell v
 keep:∀{h h':Heap} {i a:Addr} {n:Nat},It h i a n->(∀o,h.get? i=some o->h'.get? i=some o)->It h' i a n
 inv:∀{X:Cx} {pins:List (Addr×Obj)} {σ:St} {H:Hp} {s:Shared} {a:Addr} {xs:List V},Inv X pins σ H s->Sq X.K H a xs->∃us:List Value,Vals xs us/\Pl s.heap a us.toArray
 inj:∀{X:Cx} {pins:List (Addr×Obj)} {σ:St} {H:Hp} {s:Shared} {a:Addr} {xs ys:List V},Inv X pins σ H s->Sq X.K H a xs->Sq X.K H a ys->xs=ys
 ne:∀{X:Cx} {pins:List (Addr×Obj)} {σ:St} {H:Hp} {s:Shared} {a b:Addr} {xs:List V},Inv X pins σ H s->Sq X.K H a xs->ie X pins H b->a≠b
 dr:∀{prog:Program} {w:World} {A:Around},A.handled=none->∀{i a:Addr},a≠i->∀us:Array Value,Draws prog w A i [i,a] us.size (fun n v=>us[n]?=some v) (fun n h=>It h i a n/\Pl h a us)
def kT:Knd:=⟨fun K=>cA K,fun h i a n=>h.IsTupleIter i a n,fun h a us=>h.IsTuple a us,fun⟨o,g,_,d⟩=>⟨o,g,fun v q=>by rw[d] at q; cases q⟩,fun g k=>g.at k,fun I h=>(I.tuple h).elim fun us p=>⟨us,p.1,p.2.1⟩,fun I h h'=>I.qQ h h',fun I h f=>Yw I h f,fun hh _ _ n us=>rJ hh n us⟩
def ZW (k1 k2:Knd) (K:PySem.W.Frag) (a b:Addr):It:=
 ⟨fun i H=>∃xs ys x y,k1.Sq K H a xs/\k2.Sq K H b ys/\xs[i]?=some x/\ys[i]?=some y,fun i H v H'=>∃p x y,H p=none/\v=.ref p/\H'=upd H p (.tup [x,y])/\(∀xs,k1.Sq K H a xs->xs[i]?=some x)/\∀ys,k2.Sq K H b ys->ys[i]?=some y,
  fun i H=>∃xs ys,k1.Sq K H a xs/\k2.Sq K H b ys/\(i=xs.length\/(i<xs.length/\i=ys.length))⟩
structure aca (k1 k2:Knd) (z TI TO i1 i2 a b:Addr) (i:Nat) (h:Heap):Prop where
 z:IsZip h z TI TO .none
 p:IsPair h TI (.ref i1) (.ref i2)
 o:∃x y,IsPair h TO x y
 l:k1.It h i1 a i
 r:k2.It h i2 b i
abbrev ZV:=ZW kT kT
theorem JD (k1 k2:Knd) {P:Program} {w:World} {K:PySem.W.Frag} {elts:List Expr} {x1} {tp:Pos} (a b z TI TO i1 i2:Addr) (n1:TI≠z) (n2:TO≠z) (n3:TI≠TO) (n4:i1≠z) (n5:i2≠z) (n6:TO≠i1) (n7:TO≠i2) (n8:i1≠i2) (n9:TI≠i1) (n10:TI≠i2) :
  Turn P w K (.Tuple elts x1 tp) (ZW k1 k2 K a b) [z,TI,TO,i1,i2] z (aca k1 k2 z TI TO i1 i2 a b) where
 mem:=by simp
 obj:=fun i h st c hc=>by
  obtain⟨g1,g2,⟨x,y,g3⟩,g4,g5⟩:=st
  simp only[b8,qd,or_false] at hc
  rcases hc with rfl | rfl | rfl | rfl | rfl
  ·exact⟨_,g1,fun v q=>by cases q⟩
  ·exact⟨_,g2,fun v q=>by cases q⟩
  ·exact⟨_,g3,fun v q=>by cases q⟩
  ·exact k1.obj g4
  ·exact k2.obj g5
 keep:=fun i h h' st k=>by
  obtain⟨g1,g2,⟨x,y,g3⟩,g4,g5⟩:=st
  exact⟨k z (by simp) _ g1,k TI (by simp) _ g2,⟨x,y,k TO (by simp) _ g3⟩,k1.keep g4 fun o e=>k i1 (by simp) o e,k2.keep g5 fun o e=>k i2 (by simp) o e⟩
 item:=by
  intro X hP hw hK hc i pins s σ H E I hf st hg
  subst hP hw hK
  obtain⟨g1,g2,⟨xo,yo,g3⟩,g4,g5⟩:=st
  obtain⟨xs,ys,x,y,hx,hy,ex,ey⟩:=hg
  obtain⟨us,ru,pu⟩:=k1.inv I hx
  obtain⟨vs,rv,pv⟩:=k2.inv I hy
  obtain⟨u,hu,ru'⟩:=ru.get ex
  obtain⟨v,hv,rv'⟩:=rv.get ey
  have ha:∀c∈[z,TI,TO,i1,i2],a≠c:=fun c hc=>k1.ne I hx (hf c hc)
  have hb:∀c∈[z,TI,TO,i1,i2],b≠c:=fun c hc=>k2.ne I hy (hf c hc)
  have hh:X.A.in1.handled=none:=I.ok.hd hc
  have Z:Xx z TI TO i1 i2 [i1,a] [i2,b]:=⟨n1,n2,n3,n4,n5,n6,n7,n8,by simp; exact⟨n4.symm,(ha z (by simp)).symm⟩,by simp; exact⟨n5.symm,(hb z (by simp)).symm⟩,by simp; exact⟨n6,(ha TO (by simp)).symm⟩,by simp; exact⟨n7,(hb TO (by simp)).symm⟩,by simp; exact⟨n8,(hb i1 (by simp)).symm⟩,by simp; exact⟨n8.symm,(ha i2 (by simp)).symm⟩⟩
  refine Vl Z (k1.dr hh (ha i1 (by simp)) us.toArray) (k2.dr hh (hb i2 (by simp)) vs.toArray) g1 g2 g3 (show _/\_ from⟨g4,pu⟩) (show _/\_ from⟨g5,pv⟩) (by have:=(fK.mp hu).1; simpa using this) (by have:=(fK.mp hv).1; simpa using this)
   fun u' v' h' tk hu' hv' z1 z2 z3 z4 z5 z6 kk=>?_
  have eu:u'=u:=by
   have:us[i]?=some u':=by simpa using hu'
   rw[hu] at this; exact(Option.some.inj this).symm
  have ev:v'=v:=by
   have:vs[i]?=some v':=by simpa using hv'
   rw[hv] at this; exact(Option.some.inj this).symm
  subst eu ev
  have fr:H s.heap.objs.size=none:=I.hok.fresh (cW _)
  have I1:Inv X pins σ (upd H s.heap.objs.size (.tup [x,y])) { s with heap:=s.heap.push { cls:=.type "tuple",data:=.seq #[u',v'] },toks:=tk }:=
   I.laid (t':=tk) (fun b v z=>gb _ z) (cW _) ⟨(by show 2<=sizeLine; decide),[u',v'],.cons ru' (.cons rv' .nil),⟨_,dX _ rfl,rfl,_,rfl⟩⟩
  have lt:∀c∈[z,TI,TO,i1,i2],c<s.heap.objs.size:=fun c hc=>by
   simp only[b8,qd,or_false] at hc
   rcases hc with rfl | rfl | rfl | rfl | rfl
   ·exact b_ g1
   ·exact b_ g2
   ·exact b_ g3
   ·obtain⟨o,e,_⟩:=k1.obj g4; exact b_ e
   ·obtain⟨o,e,_⟩:=k2.obj g5; exact b_ e
  have f1:∀c∈[z,TI,TO,i1,i2],ie X pins (upd H s.heap.objs.size (.tup [x,y])) c:=fun c hc=>⟨by rw[aL (gk (lt c hc))]; exact(hf c hc).1,(hf c hc).2⟩
  have I2:Inv X pins σ (upd H s.heap.objs.size (.tup [x,y])) { s with heap:=h',toks:=tk }:=I1.zr (t':=tk) (fun c o nc e=>by
   have m:∀d∈[z,TI,TO,i1,i2],c≠d:=fun d hd y=>nc (y▸hd)
   by_cases y:c=s.heap.objs.size
   ·subst y
    rw[dX _ rfl] at e
    cases e
    exact z5
   ·rcases Heap.get?_push_cases e with w | w
    ·exact absurd w.1 y
    ·exact kk c o (m z (by simp)) (m TO (by simp)) (m i1 (by simp)) (m i2 (by simp)) w) f1
  have g2':IsPair h' TI (.ref i1) (.ref i2):=kk _ _ n1 n3 n9 n10 g2
  refine⟨_,rfl,wpAny_letOwnedTupleGo_zip z1 fun h2 zz sb=>⟨.ref s.heap.objs.size,_,I2.zr (fp:=[z,TI,TO,i1,i2]) (t':=tk) (fun c o nc e=>sb.extBut c o (fun y=>nc (by simp[y])) e) f1,rfl,⟨_,x,y,fr,rfl,rfl,fun xs' h=>by rw[k1.inj I h hx]; exact ex,fun ys' h=>by rw[k2.inj I h hy]; exact ey⟩,⟨zz,sb.extBut _ _ n1 g2',⟨_,_,sb.extBut _ _ n2 z2⟩,?_,?_⟩,fun c hc=>(f1 c hc).1⟩⟩
  ·exact k1.keep z3.1 fun o e=>sb.extBut i1 o n4 e
  ·exact k2.keep z4.1 fun o e=>sb.extBut i2 o n5 e
 done:=by
  intro X hP hw hK hc i pins s σ H E I hf st hg
  subst hP hw hK
  obtain⟨g1,g2,⟨xo,yo,g3⟩,g4,g5⟩:=st
  obtain⟨xs,ys,hx,hy,hl⟩:=hg
  obtain⟨us,ru,pu⟩:=k1.inv I hx
  obtain⟨vs,rv,pv⟩:=k2.inv I hy
  have ha:∀c∈[z,TI,TO,i1,i2],a≠c:=fun c hc=>k1.ne I hx (hf c hc)
  have hb:∀c∈[z,TI,TO,i1,i2],b≠c:=fun c hc=>k2.ne I hy (hf c hc)
  have hh:X.A.in1.handled=none:=I.ok.hd hc
  have Z:Xx z TI TO i1 i2 [i1,a] [i2,b]:=⟨n1,n2,n3,n4,n5,n6,n7,n8,by simp; exact⟨n4.symm,(ha z (by simp)).symm⟩,by simp; exact⟨n5.symm,(hb z (by simp)).symm⟩,by simp; exact⟨n6,(ha TO (by simp)).symm⟩,by simp; exact⟨n7,(hb TO (by simp)).symm⟩,by simp; exact⟨n8,(hb i1 (by simp)).symm⟩,by simp; exact⟨n8.symm,(ha i2 (by simp)).symm⟩⟩
  have l1:=ru.length
  have l2:=rv.length
  refine QS Z (k1.dr hh (ha i1 (by simp)) us.toArray) (k2.dr hh (hb i2 (by simp)) vs.toArray) g1 g2 g3 (show _/\_ from⟨g4,pu⟩) (show _/\_ from⟨g5,pv⟩) (by simp; omega) fun h' tk kk=>⟨rfl,I.zr (fp:=[z,TI,TO,i1,i2]) (t':=tk) (fun c o nc e=>?_) hf⟩
  have m:∀d∈[z,TI,TO,i1,i2],c≠d:=fun d hd y=>nc (y▸hd)
  exact kk c o (m z (by simp)) (m TO (by simp)) (m i1 (by simp)) (m i2 (by simp)) e
 self:=fun _ _ _ _ _ st h=>wpAny_pyIter_zip st.z h
section
variable {X:Cx}
def IK (K:PySem.W.Frag) (ta:TA):TI:=fun σ H R=>ta σ H fun vs H1=>∃a b,vs=[.ref a,.ref b]/\(∃xs,cA K H1 a xs)/\(∃ys,cA K H1 b ys)/\R (ZV K a b) H1
theorem qg {K:PySem.W.Frag} {e e':Expr} {elts:List Expr} {x1} {tp p pos:Pos} {ta:TA} (hK:X.K=K) (hm:X.mg "zip" = none) (ha:PA X [e,e'] ta) (hg:Gl X "zip" := by rfl) (h1:cG e=true:=by rfl) (h2:cG e'=true:=by rfl) :
  PI X (.Tuple elts x1 tp) (.Call (.Name "zip" p) [e,e'] [] pos) (IK K ta):=by
 subst hK
 refine .mk ?_
 intro pins s σ H R I h
 refine uW (lA I hg hm W3 ?_ (by decide) (by decide))
 refine PyProof.Rows.callWith_type1 (cB (ha pos pins s σ H _ I h) fun us s1 ⟨vs,H1,I1,r1,q1⟩=>?_) (cP h1) (cN (es:=[e']) (by simp[h2]))
 obtain⟨a,b,rfl,⟨xs,hx⟩,⟨ys,hy⟩,q⟩:=q1
 obtain⟨u,v,rfl,ru,rv⟩:=r1.two
 cases ru
 cases rv
 obtain⟨us,_,pu,_⟩:=I1.tuple hx
 obtain⟨ws,_,pw,_⟩:=I1.tuple hy
 refine La (show s1.heap.IsTuple a us.toArray from pu) (show s1.heap.IsTuple b ws.toArray from pw) fun h' hz hp ho h1 h2 kk=>?_
 have I2:Inv X pins σ H1 { s1 with heap:=h' }:=I1.kept (t':=s1.toks) kk
 have fr:∀n,H1 (s1.heap.objs.size+n)=none:=fun n=>I1.hok.fresh (Nat.le_add_right _ _)
 have fk:∀n,ie X pins H1 (s1.heap.objs.size+n):=fun n=>I1.xF (Nat.le_add_right _ _) (fr n)
 have ne:∀i j:Nat,i≠j->s1.heap.objs.size+i≠s1.heap.objs.size+j:=fun i j n e=>n (Nat.add_left_cancel e)
 refine wpAny_pyIter_zip hz ⟨s1.heap.objs.size+4,_,_,ZV X.K a b,H1,rfl,I2,JD kT kT a b (s1.heap.objs.size+4) (s1.heap.objs.size+2) (s1.heap.objs.size+3) s1.heap.objs.size (s1.heap.objs.size+1) (ne _ _ (by decide)) (ne _ _ (by decide)) (ne _ _ (by decide)) (ne 0 _ (by decide)) (ne _ _ (by decide)) (ne _ 0 (by decide)) (ne _ _ (by decide)) (ne 0 _ (by decide)) (ne _ 0 (by decide)) (ne _ _ (by decide)),⟨hz,hp,⟨_,_,ho⟩,h1,h2⟩,fun c hc=>?_,q⟩
 simp only[b8,qd,or_false] at hc
 rcases hc with rfl | rfl | rfl | rfl | rfl
 ·exact fk 4
 ·exact fk 2
 ·exact fk 3
 ·exact fk 0
 ·exact fk 1
end
abbrev two (elt t1 i1 t2 i2:Expr) (sc:Scope) (pos:Pos):Expr:=.ListComp elt [⟨t1,i1,[],0⟩,⟨t2,i2,[],0⟩] sc pos
theorem Q5 (elt t1 i1 t2 i2:Expr) (sc:Scope) (pos:Pos) (it acc:Value) (env:Env) :
  compTurn (two elt t1 i1 t2 i2 sc pos) 1 it acc env=(standAt i2.pos >>= fun _=>pyNext it >>= fun r=>match r with
   | none=>pure (.done .next)
   | some v=>letOwnedTupleGo t2 it v >>= fun _=>assign t2 env v >>= fun _=>(eval elt env >>= fun x=>call (.builtin "list.append") [acc,x] >>= fun _=>pure ()) >>= fun _=>again (.compLoop (two elt t1 i1 t2 i2 sc pos) 1 it acc env)):=by rfl
theorem Ms (elt t1 i1 t2 i2:Expr) (sc:Scope) (pos:Pos) (it acc:Value) (env:Env) :
  compTurn (two elt t1 i1 t2 i2 sc pos) 0 it acc env=(do
   standAt i1.pos
   match <- pyNext it with
   | none=>pure (.done .next)
   | some v=>
    letOwnedTupleGo t1 it v
    assign t1 env v
    let mut ok:=true
    for c in([]:List Expr) do
     if ok then ok <- isTrue c env (eval c env)
    if ok then
     let x <- eval i2 env
     standAt i2.pos
     let y <- foldedSetIterable i2 env x
     let _ <- runOwn (.compStart (two elt t1 i1 t2 i2 sc pos) 1 (<- holding [y] (pyIter y)) acc env) env
    again (.compLoop (two elt t1 i1 t2 i2 sc pos) 0 it acc env)):=by rfl
section
variable {prog:Program} {w:World} {A:Around} {R:Result->Shared->Prop} {s:Shared} {elt t1 i1 t2 i2:Expr} {sc:Scope} {pos:Pos} {it acc:Value} {env:Env}
theorem Sg (Iv:Nat->Shared->Prop)
  (turn:∀n s,Iv n s->wpAny (model prog w) A (pyNext it) (fun r s1=>match r with
   | none=>R (.ok .next) s1
   | some v=>wpAny (model prog w) A (letOwnedTupleGo t2 it v) (fun _ s2=>wpAny (model prog w) A (assign t2 env v) (fun _ s3=>wpAny (model prog w) A (eval elt env) (fun x s4=>
     wpAny (model prog w) A (call (.builtin "list.append") [acc,x]) (fun _ s5=>∃m,m<n/\Iv m s5) (fun _ _=>False) s4) (fun _ _=>False) s3) (fun _ _=>False) s2) (fun _ _=>False) s1) (fun _ _=>False) s)
  (n:Nat) (h:Iv n s):codeAny (model prog w) A (.compLoop (two elt t1 i1 t2 i2 sc pos) 1 it acc env) R s:=by
 refine codeAny_loop rfl Iv (fun n s hI=>?_) n h
 show wpAny _ _ ((compTurn (two elt t1 i1 t2 i2 sc pos) 1 it acc env).onRaise (fun x=>do noteFrame x env; theTreesLotGoes x)) _ _ s
 refine wpAny_noted ?_
 rw[Q5]
 refine aN (wV (aN (fV (turn n s hI) (fun r s1 q1=>?_) fun _ _ f=>f.elim)))
 cases r with
 | none=>exact bK q1
 | some v=>exact aN (fV q1 (fun _ s2 q2=>aN (fV q2 (fun _ s3 q3=>aN (aN (fV q3 (fun x s4 q4=>aN (fV q4 (fun _ s5 q5=>bK (bK ⟨rfl,q5⟩)) fun _ _ f=>f.elim)) fun _ _ f=>f.elim))) fun _ _ f=>f.elim)) fun _ _ f=>f.elim)
theorem O6 (hs:∀x,foldedSetIterable i2 env x=pure x) (Iv:Nat->Shared->Prop)
  (turn:∀n s,Iv n s->wpAny (model prog w) A (pyNext it) (fun r s1=>match r with
   | none=>R (.ok .next) s1
   | some v=>wpAny (model prog w) A (letOwnedTupleGo t1 it v) (fun _ s2=>wpAny (model prog w) A (assign t1 env v) (fun _ s3=>wpAny (model prog w) A (eval i2 env) (fun x s4=>wpAny (model prog w) A (pyIter x) (fun j s5=>
     codeAny (model prog w) A (.compStart (two elt t1 i1 t2 i2 sc pos) 1 j acc env) (fun r s6=>match r with | .ok _=>∃m,m<n/\Iv m s6 | .error _=>False) s5) (fun _ _=>False) s4) (fun _ _=>False) s3) (fun _ _=>False) s2) (fun _ _=>False) s1) (fun _ _=>False) s)
  (n:Nat) (h:Iv n s):codeAny (model prog w) A (.compLoop (two elt t1 i1 t2 i2 sc pos) 0 it acc env) R s:=by
 refine codeAny_loop rfl Iv (fun n s hI=>?_) n h
 show wpAny _ _ ((compTurn (two elt t1 i1 t2 i2 sc pos) 0 it acc env).onRaise (fun x=>do noteFrame x env; theTreesLotGoes x)) _ _ s
 refine wpAny_noted ?_
 rw[Ms]
 refine aN (wV (aN (fV (turn n s hI) (fun r s1 q1=>?_) fun _ _ f=>f.elim)))
 cases r with
 | none=>exact bK q1
 | some v=>
  refine aN (fV q1 (fun _ s2 q2=>aN (fV q2 (fun _ s3 q3=>?_) fun _ _ f=>f.elim)) fun _ _ f=>f.elim)
  refine aN (fV (wpAny_tests_nil (Q:=fun ok s'=>ok=true/\s'=s3) ⟨rfl,rfl⟩) (fun ok s' z=>?_) fun _ _ f=>f)
  obtain⟨rfl,rfl⟩:=z
  simp only[if_true]
  refine aN (fV q3 (fun x s4 q4=>aN (wV ?_)) fun _ _ f=>f.elim)
  refine aN (sU (hs x) (aN (oO (fV q4 (fun j s5 q5=>?_) fun _ _ f=>f.elim))))
  refine aN (wpAny_runOwn ?_)
  refine codeAny_mono q5 fun r s6 z=>?_
  cases r with
  | ok f=>exact bK ⟨rfl,z⟩
  | error e=>exact z.elim
theorem MP (h0:codeAny (model prog w) A (.compLoop (two elt t1 i1 t2 i2 sc pos) 1 it acc env) R s)
  (h:wpAny (model prog w) A (pyIter it) (fun j s'=>codeAny (model prog w) A (.compLoop (two elt t1 i1 t2 i2 sc pos) 1 j acc env) R s') (fun _ _=>False) s):codeAny (model prog w) A (.compStart (two elt t1 i1 t2 i2 sc pos) 1 it acc env) R s:=by
 refine codeAny_of_tree ?_
 show wpAny _ _ ((compStart (two elt t1 i1 t2 i2 sc pos) 1 it acc env).onRaise (fun x=>do noteFrame x env; standAt theWindowsPlace)) _ _ s
 refine wpAny_notedAt ?_; unfold compStart
 show wpAny _ _ (ask >>= _) _ _ s; refine aN (wpAny_askSetting (wpAny_ite ?_))
 split
 ·exact aN (bK (bK ⟨rfl,h0⟩))
 ·refine aN (uQ ?_); show wpAny _ _ (standAt i2.pos >>= _) _ _ s
  exact aN (wV (aN (fV h (fun j s' z=>bK ⟨rfl,z⟩) fun _ _ f=>f.elim)))
end
def Ez (js:List Nat) (wi wj:TI) (te:TE):TE:=fun σ H Q=>wi σ H fun J H1=>∀acc,H1 acc=none->∃W:Nat->Nat->List V->Hp->Prop,(∃m,W 0 m [] (upd H1 acc (.lst [])))/\∀i m ys H2,W i m ys H2 ->
 (J.stop i H2/\Q (.ref acc) H2)\/(J.go i H2/\∀x H3,J.xO i H2 x H3->wj (some x::none::bO js σ) H3 fun L H4=>∃U:Nat->Nat->List V->Hp->Prop,(∃k,U 0 k ys H4)/\∀j k zs H5,U j k zs H5 ->
  (L.stop j H5/\∃m',m'<m/\W (i+1) m' zs H5)\/(L.go j H5/\∀y H6,L.xO j H5 y H6->te (some x::some y::bO js σ) H6 fun v H7=>H7 acc=some (.lst zs)/\zs.length<sizeLine/\∃k',k'<k/\U (j+1) k' (zs++[v]) (upd H7 acc (.lst (zs++[v])))))
theorem Gv {X:Cx} {elt i1 i2:Expr} {x1 x2:Str} {p1 p2 pos:Pos} {sc:Scope} {wi wj:TI} {te:TE} {N':List Str} {js:List Nat} {use:Option (Value->Sem Unit)} {Qc:Value->Shared->Prop} {pins:List (Addr×Obj)} {s:Shared} {σ:St} {H:Hp} {Q:VK} {kp:Pos} (hc:X.calm=true) (hi:PI X (.Name x1 p1) i1 wi) (S:kj X 2 N' js sc)
  (h0:N'[0]?=some x1) (h1':N'[1]?=some x2) (nd:N'.Nodup) (l1:sc.names.lookup x1=some .local) (l2:sc.names.lookup x2=some .local) (hj:∀fp s H,PI (pC X N' sc fp s H) (.Name x2 p2) i2 wj) (he:∀fp s H,PE (pC X N' sc fp s H) elt te) (hs:∀x,foldedSetIterable i1 X.env x=pure x) (hs2:∀fp s H x,foldedSetIterable i2 (pC X N' sc fp s H).env x=pure x) (I:Inv X pins σ H s) (h:Ez js wi wj te σ H Q)
  (fin:∀(acc C:Addr) (H':Hp) (s':Shared),Inv X pins σ H' s'->ie X pins H' C->(∃m,s'.heap.Ns C m)->Q (.ref acc) H'->compPost (model X.prog X.w) X.A X.xe use Qc (.ref acc) C (.ok .next) s') :
  wpAny (model X.prog X.w) X.A (comprehension (two elt (.Name x1 p1) i1 (.Name x2 p2) i2 sc pos) sc X.env kp (newList []) false (eval i1 X.env) use) Qc X.xe s:=by
 refine wpAny_comprehension_free (use:=use) rfl hs S.clos S.kind S.names ?_
 refine cB (hi pins s σ H _ I h) fun v s1 q1=>cB q1 fun itv s2 q2=>?_
 obtain⟨it,fp,tn,J,H2,e,I2,T,st2,f2,q3⟩:=q2
 subst e
 refine q_ ?_
 obtain⟨W,⟨m0,w0⟩,turn⟩:=q3 s2.heap.objs.size I2.fresh
 have I3:=I2.Wr (ys:=[]) (its:=[]) (t':=s2.toks) .nil (e_ _)
 have Zh:∀b∈fp,b<s2.heap.objs.size:=fun b hb=>by
  obtain⟨o,ho,_⟩:=T.obj 0 _ st2 b hb
  exact b_ ho
 generalize e3:({ s2 with heap:=s2.heap.push { cls:=.type "list",data:=.seq ([]:List Value).toArray },toks:=s2.toks }:Shared)=s3 at I3
 have e3':({ s2 with heap:=s2.heap.push { cls:=.type "list",dict:=none,data:=.seq ([]:List Value).toArray } }:Shared)=s3:=e3
 have sz3:s3.heap.objs.size=s2.heap.objs.size+1:=by rw[<- e3]; exact mK ..
 have st3:tn 0 s3.heap:=T.keep 0 _ _ st2 fun b hb o ho=>by rw[<- e3]; exact gb _ ho
 have Zg:∀b∈fp,b<s3.heap.objs.size:=fun b hb=>by rw[sz3]; exact JW (Zh b hb)
 have f3:∀b∈fp,ie X pins (upd H2 s2.heap.objs.size (.lst [])) b:=fun b hb=>⟨by rw[aL (gk (Zh b hb))]; exact(f2 b hb).1,(f2 b hb).2⟩
 generalize hH3:upd H2 s2.heap.objs.size (.lst [])=H3 at I3 f3 w0
 refine wpAny_newFunctionEnv S.gF (by intro y hy; simp at hy) (fun h1 hns hsb=>?_) S.kind
 have hk:∀b o,s3.heap.get? b=some o->h1.get? b=some o:=fun b o q=>hsb.extBut b o (gk (b_ q)) (gb _ q)
 have hns':h1.Ns s3.heap.objs.size fun _=>none:=hns
 have I4:Inv (pC X N' sc fp s3 H3) [] (none::none::bO js σ) H3 { s3 with heap:=h1,toks:=s3.toks+([]:List (Str×Value)).length }:=KY (nt:=2) I3 f3 Zg S hns' hk
 have Yt:tn 0 h1:=T.keep 0 _ _ st3 fun b hb o ho=>hk b o ho
 have stat:∀{H':Hp},(∀b∈fp,H' b=none)->∀b∈fp,ie (pC X N' sc fp s3 H3) [] H' b:=fun hn b hb=>⟨hn b hb,gk (Zg b hb),I4.ok.Gp b hb,.inl hb,(I4.ok.Zz b hb).2,fun p hp=>absurd (show p∈([]:List (Addr×Obj)) from hp) (by simp)⟩
 have out:∀{σ':St} {H':Hp} {s':Shared},Inv (pC X N' sc fp s3 H3) [] σ' H' s'->Q (.ref s2.heap.objs.size) H'->compPost (model X.prog X.w) X.A X.xe use Qc (.ref s2.heap.objs.size) s3.heap.objs.size (.ok .next) s':=by
  intro σ' H' s' I' q'
  obtain⟨m,hn,_⟩:=id I'.loc
  have I5:Inv X pins σ H' s':=I3.call' I'.os I'.base I'.hok I'.bare fun b hb=>⟨(f3 b hb).2.2.2.1,(f3 b hb).2.1,(f3 b hb).2.2.2.2.1,(f3 b hb).2.2.2.2.2⟩
  exact fin _ _ H' s' I5 (I3.xF (cW _) I'.free) ⟨m,hn⟩ q'
 have loop:∀s4:Shared,s4={ s3 with heap:=h1,toks:=s3.toks+([]:List (Str×Value)).length }->codeAny (model X.prog X.w) X.A (.compLoop (two elt (.Name x1 p1) i1 (.Name x2 p2) i2 sc pos) 0 (.ref it) (.ref s2.heap.objs.size) (compEnvC sc (pF sc X.env) s3.heap.objs.size X.env))
   (compPost (model X.prog X.w) X.A X.xe use Qc (.ref s2.heap.objs.size) s3.heap.objs.size) s4:=by
  rintro s4 rfl
  refine O6 (hs2 fp s3 H3) (fun n s'=>∃i ys H',Inv (pC X N' sc fp s3 H3) [] (none::none::bO js σ) H' s'/\tn i s'.heap/\(∀b∈fp,H' b=none)/\W i n ys H') ?_ m0 ⟨0,[],H3,I4,Yt,fun b hb=>(f3 b hb).1,w0⟩
  rintro n s5 ⟨i,ys,H5,I5,Rc,WL,w5⟩
  rcases turn i n ys H5 w5 with⟨stop,qn⟩ | ⟨go,step⟩
  ·refine cB (T.done (pC X N' sc fp s3 H3) rfl rfl rfl hc i [] s5 _ H5 (fun _ _=>False) I5 (stat WL) Rc stop) fun r s6 qx=>?_
   obtain⟨hr,I6⟩:=qx
   subst hr
   exact out I6 qn
  ·refine cB (T.item (pC X N' sc fp s3 H3) rfl rfl rfl hc i [] s5 _ H5 (fun _ _=>False) I5 (stat WL) Rc go) fun r s6 qx=>?_
   obtain⟨u,hr,q6⟩:=qx
   subst hr
   refine cB q6 fun _ s7 qx=>?_
   obtain⟨y,H7,I7,r7,y7,Rb,fr7⟩:=qx
   have I7':=I7.pinned (stat fr7) (T.obj _ _ Rb)
   have g1:PG (pC X N' sc fp s3 H3) (.Name x1 p1) (d8 0):=aF nd h0 (.inl (iK l1)) (.inr (iK l1))
   have g2:PG (pC X N' sc fp s3 H3) (.Name x2 p2) (d8 1):=aF nd h1' (.inl (iK l2)) (.inr (iK l2))
   refine cB (g1 _ s7 _ H7 y u (fun σ' H'=>σ'=some y::none::bO js σ/\H'=H7) I7' r7 ⟨rfl,rfl⟩) fun _ s8 qx=>?_
   obtain⟨σ8,H8,I8,e8,ZC⟩:=qx
   subst e8 ZC
   refine cB (hj fp s3 H3 _ s8 _ _ _ I8 (step y _ y7)) fun v9 s9 q9=>cB q9 fun itv rY VP=>?_
   obtain⟨it2,fp2,tn2,L,Bj,e10,ZZ,T2,Yv,WN,U,⟨k0,u0⟩,Yg⟩:=VP
   subst e10
   have MN:∀{H':Hp},(∀b∈fp2,H' b=none)->∀b∈fp2,ie (pC X N' sc fp s3 H3) _ H' b:=fun hn b hb=>⟨hn b hb,(WN b hb).2⟩
   have U6:codeAny (model X.prog X.w) X.A (.compLoop (two elt (.Name x1 p1) i1 (.Name x2 p2) i2 sc pos) 1 (.ref it2) (.ref s2.heap.objs.size) (compEnvC sc (pF sc X.env) s3.heap.objs.size X.env))
     (fun r s6=>match r with | .ok _=>∃m,m<n/\∃i ys H',Inv (pC X N' sc fp s3 H3) [] (none::none::bO js σ) H' s6/\tn i s6.heap/\(∀b∈fp,H' b=none)/\W i m ys H' | .error _=>False) rY:=by
    refine Sg (fun k s'=>∃j zs H',Inv (pC X N' sc fp s3 H3) _ (some y::none::bO js σ) H' s'/\tn2 j s'.heap/\(∀b∈fp2,H' b=none)/\U j k zs H') ?_ k0 ⟨0,ys,Bj,ZZ,Yv,fun b hb=>(WN b hb).1,u0⟩
    rintro k Eo ⟨j,zs,Lp,I11,Yu,Zv,w11⟩
    rcases Yg j k zs Lp w11 with⟨Yq,m',hm,qn2⟩ | ⟨go2,Ys⟩
    ·refine cB (T2.done (pC X N' sc fp s3 H3) rfl rfl rfl hc j _ Eo _ Lp (fun _ _=>False) I11 (MN Zv) Yu Yq) fun r s12 qx=>?_
     obtain⟨hr,I12⟩:=qx
     subst hr
     refine⟨m',hm,i+1,zs,Lp,(I12.gY).weak rfl fun q v e=>?_,T.keep _ _ _ Rb fun b hb o e=>(I12.pin (b,o) (ir _ (ir _ (cH hb e)))).1,fun b hb=>?_,qn2⟩
     ·cases q with
      | zero=>simp at e
      | succ q=>simpa using e
     ·obtain⟨o,e,d⟩:=T.obj _ _ Rb b hb
      exact(I12.pin (b,o) (ir _ (ir _ (cH hb e)))).2.1
    ·refine cB (T2.item (pC X N' sc fp s3 H3) rfl rfl rfl hc j _ Eo _ Lp (fun _ _=>False) I11 (MN Zv) Yu go2) fun r s12 qx=>?_
     obtain⟨u2,hr,q12⟩:=qx
     subst hr
     refine cB q12 fun _ uN qx=>?_
     obtain⟨y2,Vk,I13,r13,y13,Vz,abC⟩:=qx
     have acn:=I13.pinned (MN abC) (T2.obj _ _ Vz)
     refine cB (g2 _ uN _ Vk y2 u2 (fun σ' H'=>σ'=some y::some y2::bO js σ/\H'=Vk) acn r13 ⟨rfl,rfl⟩) fun _ Uv qx=>?_
     obtain⟨σ14,XH,I14,Tf,ab7⟩:=qx
     subst Tf ab7
     refine cB (he fp s3 H3 _ Uv _ _ _ I14 (Ys y2 _ y13)) fun z Xi qx=>?_
     obtain⟨vz,Vj,I15,r15,ha,hz,k',hk',w15⟩:=qx
     refine cB (j0 (X:=pC X N' sc fp s3 H3) _ Xi _ Vj (.ref s2.heap.objs.size) [vz] (.ref s2.heap.objs.size) [z] (fun _ H'=>H'=upd Vj s2.heap.objs.size (.lst (zs++[vz]))) I15 rfl (.cons r15 .nil) ⟨_,zs,vz,rfl,rfl,ha,hz,rfl⟩) fun _ tU qx=>?_
     obtain⟨_,H16,I16,_,WT⟩:=qx
     subst WT
     refine⟨k',hk',j+1,zs++[vz],_,(I16.gY).weak rfl fun q v e=>?_,T2.keep _ _ _ Vz fun b hb o e=>(I16.pin (b,o) (ir _ (ir _ (cH hb e)))).1,fun b hb=>?_,w15⟩
     ·match q,e with
      | 0,e=>simpa using e
      | 1,e=>simp at e
      | q+2,e=>simpa using e
     ·obtain⟨o,e,d⟩:=T2.obj _ _ Vz b hb
      exact(I16.pin (b,o) (ir _ (ir _ (cH hb e)))).2.1
   exact MP U6 (T2.self X.A 0 _ _ _ Yv U6)
 exact codeAny_compStart_list (loop _ rfl) (T.self X.A 0 _ _ _ Yt (loop _ rfl))
theorem bJ {X:Cx} {K:PySem.W.Frag} {pos:Pos} {es:List Expr} {k:Nat} {t:QF} {n:Nat} (hK:X.K=K) (hc:X.calm=true) (h:W9 X es t)
  (hn:(assignEach es X.env).length=n:=by rfl) (hst:(assignEach es X.env).findIdx? (·.1)=none:=by rfl):PG X (.Tuple es k pos) (Gj K n t):=by
 subst hK
 exact V5 hc h hn hst
theorem jr {X:Cx} {K:PySem.W.Frag} {tg l:Expr} {tl:TE} (hK:X.K=K) (hl:PE X l tl):PI X tg l (xq K tl):=by
 subst hK
 exact V3 hl
theorem h_ {X:Cx} {K:PySem.W.Frag} {tg l:Expr} {tl:TE} (hK:X.K=K) (hl:PE X l tl):PI X tg l (yI K tl):=by
 subst hK
 exact RL hl
theorem Od {X:Cx} {elt i1 i2:Expr} {x1 x2:Str} {p1 p2 pos:Pos} {sc:Scope} {wi wj:TI} {te:TE} {N':List Str} {js:List Nat} (hc:X.calm=true) (hi:PI X (.Name x1 p1) i1 wi) (S:kj X 2 N' js sc)
  (h0:N'[0]?=some x1) (h1':N'[1]?=some x2) (nd:N'.Nodup) (l1:sc.names.lookup x1=some .local) (l2:sc.names.lookup x2=some .local) (hj:∀fp s H,PI (pC X N' sc fp s H) (.Name x2 p2) i2 wj) (he:∀fp s H,PE (pC X N' sc fp s H) elt te) (hs:∀x,foldedSetIterable i1 X.env x=pure x:=by intro _; rfl) (hs2:∀fp s H x,foldedSetIterable i2 (pC X N' sc fp s H).env x=pure x:=by intro _ _ _ _; rfl) :
  PE X (two elt (.Name x1 p1) i1 (.Name x2 p2) i2 sc pos) (Ez js wi wj te):=by
 refine .mk ?_
 intro pins s σ H Q I h
 rw[eval_ListComp]
 refine Gv (use:=none) hc hi S h0 h1' nd l1 l2 hj he hs hs2 I h fun acc C H' s' I5 fc ⟨m,hn⟩ q=>?_
 refine⟨m,hn,fun h' sb=>?_⟩
 exact⟨.ref acc,H',I5.turned (it:=C) (t':=s'.toks) (fun b o hb q=>sb.extBut b o hb q) fc.1 fc.2.1 fc.2.2.2.1 fc.2.2.2.2.1 fc.2.2.2.2.2,rfl,q⟩
theorem v_ {K:PySem.W.Frag} {js:List Nat} {J:It} {te:TE} {σ:St} {H:Hp} {Q:VK} {acc:Addr} {es:List PyData} (xv yv:Nat->V) (hz:es.length<=sizeLine) (hL:bF es=true) (hacc:H acc=none)
  (go:∀i H',i<es.length->aC H H'->J.go i H') (yl:∀i H' v cZ,i<es.length->aC H H'->J.xO i H' v cZ->∃p,H' p=none/\v=.ref p/\cZ=upd H' p (.tup [xv i,yv i])) (st:∀H',aC H H'->J.stop es.length H')
  (val:∀(i:Nat) e H',es[i]?=some e->aC H H'->∀R:VK,(∀v cZ,aC H' cZ->At cZ e v->R v cZ)->te (some (xv i)::some (yv i)::bO js σ) H' R)
  (fin:∀ys H',aC H H'->H' acc=some (.lst ys)->aj (hid acc H') es ys->Q (.ref acc) H') :
  ∃W:Nat->Nat->List V->Hp->Prop,(∃m,W 0 m [] (upd H acc (.lst [])))/\∀i m ys H2,W i m ys H2 ->
   (J.stop i H2/\Q (.ref acc) H2)\/(J.go i H2/\∀x H3,J.xO i H2 x H3->Gj K 2 (je (d8 0) (je (d8 1) xr)) x (List.replicate 2 none++bO js σ) H3 fun σ' H'=>(σ'.drop 2=bO js σ/\σ'.length=(List.replicate 2 (none:Option V)++bO js σ).length)/\qR σ' H' fun b cZ=>
    if b=true then te σ' cZ fun y H4=>H4 acc=some (.lst ys)/\ys.length<sizeLine/\∃m',m'<m/\W (i+1) m' (ys++[y]) (upd H4 acc (.lst (ys++[y]))) else ∃m',m'<m/\W (i+1) m' ys cZ):=by
 refine⟨fun i m ys H2=>m=es.length-i/\i<=es.length/\aj (hid acc H2) (es.take i) ys/\aC H H2/\H2 acc=some (.lst ys),⟨_,rfl,e_ _,aj.nil,aO hacc _,az⟩,?_⟩
 rintro i m ys H2 ⟨rfl,hi,hA,sm,hy⟩
 by_cases hlt:i<es.length
 ·refine .inr ⟨go i H2 hlt sm,fun x H3 y=>?_⟩
  obtain⟨p,fp,rfl,rfl⟩:=yl i H2 x H3 hlt sm y
  refine⟨p,_,rfl,cA.of az,rfl,(show(_=_/\_=_)/\qR _ _ _ from⟨⟨rfl,by simp⟩,?_⟩)⟩
  unfold qR
  simp only[if_true]
  have e1:es[i]?=some es[i]:=eV hlt
  have s3:aC H2 (upd H2 p (.tup [xv i,yv i])):=aO fp _
  refine val i _ _ e1 (sm.trans s3) _ fun v H4 s4 a4=>⟨s4 _ _ (s3 _ _ hy),?_,es.length-(i+1),by omega,rfl,hlt,?_,?_,az⟩
  ·rw[hA.length,nW]; omega
  ·rw[iG,Ca,e1]
   exact aj.append (hA.mono (aC.hid (s3.trans s4))) (aj.cons (At.tE (s4 _ _ (s3 _ _ hy)) _ _ (k_ hL e1) a4) aj.nil)
  ·refine fun b o q=>?_
   have nb:b≠acc:=bV q hacc
   rw[aL nb]
   exact s4 _ _ (s3 _ _ (sm _ _ q))
 ·have e:i=es.length:=by omega
  subst e
  rw[wY] at hA
  exact .inl ⟨st _ sm,fin _ _ sm hy hA⟩
theorem K9 {K:PySem.W.Frag} {js:List Nat} {a b:Addr} {xs ys:List V} {es:List PyData} {ta:TA} {te:TE} {σ:St} {H:Hp} {Q:VK} (hl:∀R:List V->Hp->Prop,R [.ref a,.ref b] H->ta σ H R) (ha:H a=some (.tup xs)) (hb:H b=some (.tup ys)) (n1:xs.length=es.length) (n2:ys.length=es.length) (hz:es.length<=sizeLine) (hL:bF es=true)
  (val:∀(i:Nat) x y e H',xs[i]?=some x->ys[i]?=some y->es[i]?=some e->aC H H'->∀R:VK,(∀v cZ,aC H' cZ->At cZ e v->R v cZ)->te (some x::some y::bO js σ) H' R)
  (fin:∀acc zs H',aC H H'->H acc=none->H' acc=some (.lst zs)->aj (hid acc H') es zs->Q (.ref acc) H'):gw 2 js (IK K ta) (Gj K 2 (je (d8 0) (je (d8 1) xr))) qR te σ H Q:=by
 refine hl _ ⟨a,b,rfl,⟨xs,cA.of ha⟩,⟨ys,cA.of hb⟩,fun acc hacc=>?_⟩
 have gx:∀i,i<es.length->xs[i]?=some (xs.getD i .non):=fun i hi=>by rw[iB,eV (by omega)]; rfl
 have gy:∀i,i<es.length->ys[i]?=some (ys.getD i .non):=fun i hi=>by rw[iB,eV (by omega)]; rfl
 refine v_ (es:=es) (fun i=>xs.getD i .non) (fun i=>ys.getD i .non) hz hL hacc (fun i H' hi s=>⟨xs,ys,_,_,cA.of (s _ _ ha),cA.of (s _ _ hb),gx i hi,gy i hi⟩) (fun i H' v cZ hi s y=>?_) (fun H' s=>⟨xs,ys,cA.of (s _ _ ha),cA.of (s _ _ hb),.inl n1.symm⟩) (fun i e H' he s R hR=>?_) fun zs H' s h1 h2=>fin acc zs H' s hacc h1 h2
 ·obtain⟨p,x,y,fp,e1,e2,h1,h2⟩:=y
  have q1:=h1 xs (cA.of (s _ _ ha))
  have q2:=h2 ys (cA.of (s _ _ hb))
  rw[gx i hi] at q1
  rw[gy i hi] at q2
  cases q1
  cases q2
  exact⟨p,fp,e1,e2⟩
 ·have hi:i<es.length:=by
   by_cases z:i<es.length
   ·exact z
   ·rw[HD (by omega)] at he; cases he
  exact val i _ _ e H' (gx i hi) (gy i hi) he s R hR
theorem Gu {K:PySem.W.Frag} {js:List Nat} {a:Addr} {ys:List V} {es:List PyData} {ta:TA} {te:TE} {σ:St} {H:Hp} {Q:VK} (hl:∀R:List V->Hp->Prop,R [.ref a] H->ta σ H R) (hb:H a=some (.tup ys)) (n2:ys.length=es.length) (hz:es.length<=sizeLine) (hL:bF es=true)
  (val:∀(i:Nat) y e H',ys[i]?=some y->es[i]?=some e->aC H H'->∀R:VK,(∀v cZ,aC H' cZ->At cZ e v->R v cZ)->te (some (.int (i:Nat))::some y::bO js σ) H' R)
  (fin:∀acc zs H',aC H H'->H acc=none->H' acc=some (.lst zs)->aj (hid acc H') es zs->Q (.ref acc) H'):gw 2 js (Py K ta) (Gj K 2 (je (d8 0) (je (d8 1) xr))) qR te σ H Q:=by
 refine hl _ ⟨a,rfl,⟨ys,cA.of hb⟩,fun acc hacc=>?_⟩
 have gy:∀i,i<es.length->ys[i]?=some (ys.getD i .non):=fun i hi=>by rw[iB,eV (by omega)]; rfl
 refine v_ (es:=es) (fun i=>.int (i:Nat)) (fun i=>ys.getD i .non) hz hL hacc (fun i H' hi s=>⟨ys,_,cA.of (s _ _ hb),gy i hi⟩) (fun i H' v cZ hi s y=>?_) (fun H' s=>⟨ys,cA.of (s _ _ hb),n2⟩) (fun i e H' he s R hR=>?_) fun zs H' s h1 h2=>fin acc zs H' s hacc h1 h2
 ·obtain⟨p,y,fp,e1,e2,h2⟩:=y
  have q2:=h2 ys (cA.of (s _ _ hb))
  rw[gy i hi] at q2
  cases q2
  exact⟨p,fp,e1,e2⟩
 ·have hi:i<es.length:=by
   by_cases z:i<es.length
   ·exact z
   ·rw[HD (by omega)] at he; cases he
  exact val i _ e H' (gy i hi) he s R hR
theorem Qo {K:PySem.W.Frag} {js:List Nat} {xs:List V} {es:List PyData} {te:TE} {σ:St} {H:Hp} {Q:VK} (hn:es.length=xs.length) (hz:es.length<=sizeLine) (hL:bF es=true)
  (step:∀(i:Nat) x e H',xs[i]?=some x->es[i]?=some e->aC H H'->∀R:VK,(∀v cZ,aC H' cZ->At cZ e v->R v cZ)->te (some x::bO js σ) H' R)
  (fin:∀acc ys H',aC H H'->H acc=none->H' acc=some (.lst ys)->aj (hid acc H') es ys->Q (.ref acc) H'):gq js (xq K (Vv K xs)) te σ H Q:=by
 intro a _ ht
 refine⟨a,rfl,⟨xs,ht H⟩,fun acc hacc=>?_⟩
 refine⟨fun i m ys H2=>m=es.length-i/\i<=es.length/\aj (hid acc H2) (es.take i) ys/\aC H H2/\H2 acc=some (.lst ys),⟨_,rfl,e_ _,aj.nil,aO hacc _,az⟩,?_⟩
 rintro i m ys H2 ⟨rfl,hi,hA,sm,hy⟩
 by_cases hlt:i<es.length
 ·refine .inr ⟨⟨xs,xs[i]'(by omega),ht _,eV (by omega)⟩,fun x H3 y=>?_⟩
  obtain⟨e,y⟩:=y
  subst e
  have e1:es[i]?=some es[i]:=eV hlt
  refine step i x _ _ (y xs (ht _)) e1 sm _ fun v H4 s4 a4=>⟨s4 _ _ hy,?_,es.length-(i+1),by omega,rfl,hlt,?_,?_,az⟩
  ·rw[hA.length,nW]; omega
  ·rw[iG,Ca,e1]
   exact aj.append (hA.mono (aC.hid s4)) (aj.cons (At.tE (s4 _ _ hy) _ _ (k_ hL e1) a4) aj.nil)
  ·refine fun b o q=>?_
   have nb:b≠acc:=bV q hacc
   rw[aL nb]
   exact s4 _ _ (sm _ _ q)
 ·have e:i=es.length:=by omega
  subst e
  rw[wY] at hA
  exact .inl ⟨⟨xs,ht _,by omega⟩,fin _ _ _ sm hacc hy hA⟩
theorem Qp {K:PySem.W.Frag} {js:List Nat} {a:Addr} {xs:List V} {tl tm te:TE} {σ:St} {H:Hp} {Q:VK} (vU:List (List PyData)) (hl:∀R:VK,R (.ref a) H->tl σ H R) (ha:H a=some (.tup xs)) (hA:aj H (vU.map PyData.tuple) xs) (hn:vU.flatten.length<=1000)
  (hm:∀x H' (R:VK),R x H'->tm (some x::none::bO js σ) H' R) (he:∀x y H' (R:VK),R y H'->te (some x::some y::bO js σ) H' R)
  (fin:∀acc ys H',aC H H'->H acc=none->H' acc=some (.lst ys)->aj H vU.flatten ys->Q (.ref acc) H'):Ez js (xq K tl) (xq K tm) te σ H Q:=by
 refine hl _ ⟨a,rfl,⟨xs,cA.of ha⟩,fun acc hacc=>?_⟩
 have hlen:xs.length=vU.length:=by rw[hA.length,bR]
 have tl':∀i,(vU.take i).flatten.length<=vU.flatten.length:=fun i=>by
  have:vU.flatten=(vU.take i).flatten++(vU.drop i).flatten:=by rw[<- List.flatten_append,List.take_append_drop]
  rw[this,gD]; omega
 refine⟨fun i m ys H2=>m=vU.length-i/\i<=vU.length/\aj H (vU.take i).flatten ys/\aC H H2/\H2 acc=some (.lst ys),⟨_,rfl,e_ _,aj.nil,aO hacc _,az⟩,?_⟩
 rintro i m ys H2 ⟨rfl,hi,Zt,sm,hy⟩
 have ht:cA K H2 a xs:=cA.of (sm _ _ ha)
 by_cases hlt:i<vU.length
 ·refine .inr ⟨⟨xs,xs[i]'(by omega),ht,eV (by omega)⟩,fun x H3 y=>?_⟩
  obtain⟨e,y⟩:=y
  subst e
  have hx:=y xs ht
  have e1:vU[i]?=some vU[i]:=eV hlt
  obtain⟨x',hx',ax⟩:=hA.getD (show(vU.map PyData.tuple)[i]?=some (.tuple vU[i]) by rw[g8,e1]; rfl)
  rw[hx] at hx'
  cases hx'
  generalize hds:vU[i]=ds at *
  unfold At at ax
  obtain⟨b,zs,rfl,hb,aB⟩:=ax
  have ef:(vU.take (i+1)).flatten=(vU.take i).flatten++ds:=by rw[Ca,e1]; simp
  refine hm _ _ _ ⟨b,rfl,⟨zs,cA.of (sm _ _ hb)⟩,?_⟩
  refine⟨fun j k ws H5=>k=ds.length-j/\j<=ds.length/\aj H ((vU.take i).flatten++ds.take j) ws/\aC H H5/\H5 acc=some (.lst ws),⟨_,rfl,e_ _,by simpa using Zt,sm,hy⟩,?_⟩
  rintro j k ws H5 ⟨rfl,hj,hA5,sm5,hy5⟩
  have ht5:cA K H5 b zs:=cA.of (sm5 _ _ hb)
  have hzl:=aB.length
  by_cases hjt:j<ds.length
  ·refine .inr ⟨⟨zs,zs[j]'(by omega),ht5,eV (by omega)⟩,fun u H6 yu=>?_⟩
   obtain⟨e,yu⟩:=yu
   subst e
   have hu:=yu zs ht5
   obtain⟨d,hd,au⟩:=aB.get hu
   refine he _ _ _ _ ⟨hy5,bj ?_,ds.length-(j+1),by omega,rfl,hjt,?_,sm5.dw hacc,az⟩
   ·have:=hA5.length
    rw[gD,nW] at this
    have t2:=tl' (i+1)
    rw[ef,gD] at t2
    omega
   ·rw[Ca,hd,<- Cg]
    exact hA5.append (aj.cons au aj.nil)
  ·have ej:j=ds.length:=by omega
   subst ej
   rw[wY] at hA5
   refine .inl ⟨⟨zs,ht5,by omega⟩,vU.length-(i+1),by omega,rfl,hlt,by rw[ef]; exact hA5,sm5,hy5⟩
 ·have e:i=vU.length:=by omega
  subst e
  rw[wY] at Zt
  exact .inl ⟨⟨xs,ht,by omega⟩,fin _ _ _ sm hacc hy Zt⟩
section
variable {X:Cx} {pins:List (Addr×Obj)} {σ:St} {H:Hp} {s:Shared} {A:Around} {E:Value->Shared->Prop} {Q:Value->Shared->Prop} {b:Bool}
end
section
variable {X:Cx}
end
theorem vZ {nt:Nat} {g:TG} {js:List Nat} {J:It} {te:TE} {σ:St} {H:Hp} {Q:VK} {acc:Addr} {es:List PyData} (τ:Nat->St) (hτ:∀i,(τ i).length=nt) (hz:es.length<=sizeLine) (hL:bF es=true) (hacc:H acc=none)
  (go:∀i H',i<es.length->aC H H'->J.go i H')
  (yl:∀i H' v cZ,i<es.length->aC H H'->J.xO i H' v cZ->aC H' cZ/\∀R:St->Hp->Prop,R (τ i++bO js σ) cZ->g v (List.replicate nt none++bO js σ) cZ R) (st:∀H',aC H H'->J.stop es.length H')
  (val:∀(i:Nat) e H',es[i]?=some e->aC H H'->∀R:VK,(∀v cZ,aC H' cZ->At cZ e v->R v cZ)->te (τ i++bO js σ) H' R)
  (fin:∀ys H',aC H H'->H' acc=some (.lst ys)->aj (hid acc H') es ys->Q (.ref acc) H') :
  ∃W:Nat->Nat->List V->Hp->Prop,(∃m,W 0 m [] (upd H acc (.lst [])))/\∀i m ys H2,W i m ys H2 ->
   (J.stop i H2/\Q (.ref acc) H2)\/(J.go i H2/\∀x H3,J.xO i H2 x H3->g x (List.replicate nt none++bO js σ) H3 fun σ' H'=>(σ'.drop nt=bO js σ/\σ'.length=(List.replicate nt (none:Option V)++bO js σ).length)/\qR σ' H' fun b cZ=>
    if b=true then te σ' cZ fun y H4=>H4 acc=some (.lst ys)/\ys.length<sizeLine/\∃m',m'<m/\W (i+1) m' (ys++[y]) (upd H4 acc (.lst (ys++[y]))) else ∃m',m'<m/\W (i+1) m' ys cZ):=by
 refine⟨fun i m ys H2=>m=es.length-i/\i<=es.length/\aj (hid acc H2) (es.take i) ys/\aC H H2/\H2 acc=some (.lst ys),⟨_,rfl,e_ _,aj.nil,aO hacc _,az⟩,?_⟩
 rintro i m ys H2 ⟨rfl,hi,hA,sm,hy⟩
 by_cases hlt:i<es.length
 ·refine .inr ⟨go i H2 hlt sm,fun x H3 y=>?_⟩
  obtain⟨s3,gg⟩:=yl i H2 x H3 hlt sm y
  refine gg _ ⟨⟨?_,?_⟩,?_⟩
  ·rw[List.drop_append_of_le_length (by rw[hτ]; exact cW _),<- hτ i,Ce,Fq]
  ·rw[gD,gD,hτ,Ck]
  unfold qR
  simp only[if_true]
  have e1:es[i]?=some es[i]:=eV hlt
  refine val i _ _ e1 (sm.trans s3) _ fun v H4 s4 a4=>⟨s4 _ _ (s3 _ _ hy),?_,es.length-(i+1),by omega,rfl,hlt,?_,?_,az⟩
  ·rw[hA.length,nW]; omega
  ·rw[iG,Ca,e1]
   exact aj.append (hA.mono (aC.hid (s3.trans s4))) (aj.cons (At.tE (s4 _ _ (s3 _ _ hy)) _ _ (k_ hL e1) a4) aj.nil)
  ·refine fun b o q=>?_
   have nb:b≠acc:=bV q hacc
   rw[aL nb]
   exact s4 _ _ (s3 _ _ (sm _ _ q))
 ·have e:i=es.length:=by omega
  subst e
  rw[wY] at hA
  exact .inl ⟨st _ sm,fin _ _ sm hy hA⟩
theorem nQ {K:PySem.W.Frag} {nt:Nat} {g:TG} {js:List Nat} {a b:Addr} {xs ys:List V} {es:List PyData} {ta:TA} {te:TE} {σ:St} {H:Hp} {Q:VK} (τ:Nat->St) (hτ:∀i,(τ i).length=nt) (hl:∀R:List V->Hp->Prop,R [.ref a,.ref b] H->ta σ H R) (ha:H a=some (.tup xs)) (hb:H b=some (.tup ys)) (n1:xs.length=es.length) (n2:ys.length=es.length) (hz:es.length<=sizeLine) (hL:bF es=true)
  (tgt:∀(i:Nat) x y p H',xs[i]?=some x->ys[i]?=some y->aC H H'->H' p=some (.tup [x,y])->∀R:St->Hp->Prop,R (τ i++bO js σ) H'->g (.ref p) (List.replicate nt none++bO js σ) H' R)
  (val:∀(i:Nat) e H',es[i]?=some e->aC H H'->∀R:VK,(∀v cZ,aC H' cZ->At cZ e v->R v cZ)->te (τ i++bO js σ) H' R)
  (fin:∀acc zs H',aC H H'->H acc=none->H' acc=some (.lst zs)->aj (hid acc H') es zs->Q (.ref acc) H'):gw nt js (IK K ta) g qR te σ H Q:=by
 refine hl _ ⟨a,b,rfl,⟨xs,cA.of ha⟩,⟨ys,cA.of hb⟩,fun acc hacc=>?_⟩
 have gx:∀i,i<es.length->xs[i]?=some (xs.getD i .non):=fun i hi=>by rw[iB,eV (by omega)]; rfl
 have gy:∀i,i<es.length->ys[i]?=some (ys.getD i .non):=fun i hi=>by rw[iB,eV (by omega)]; rfl
 refine vZ (es:=es) τ hτ hz hL hacc (fun i H' hi s=>⟨xs,ys,_,_,cA.of (s _ _ ha),cA.of (s _ _ hb),gx i hi,gy i hi⟩) (fun i H' v cZ hi s y=>?_) (fun H' s=>⟨xs,ys,cA.of (s _ _ ha),cA.of (s _ _ hb),.inl n1.symm⟩) val fun zs H' s h1 h2=>fin acc zs H' s hacc h1 h2
 obtain⟨p,x,y,fp,rfl,rfl,h1,h2⟩:=y
 have q1:=h1 xs (cA.of (s _ _ ha))
 have q2:=h2 ys (cA.of (s _ _ hb))
 exact⟨aO fp _,fun R hR=>tgt i x y p _ q1 q2 (s.trans (aO fp _)) az R hR⟩
theorem Jh {K:PySem.W.Frag} {nt:Nat} {g:TG} {js:List Nat} {a:Addr} {xs:List V} {es:List PyData} {tl te:TE} {σ:St} {H:Hp} {Q:VK} (τ:Nat->St) (hτ:∀i,(τ i).length=nt) (hl:∀R:VK,R (.ref a) H->tl σ H R) (ha:H a=some (.tup xs)) (n1:xs.length=es.length) (hz:es.length<=sizeLine) (hL:bF es=true)
  (tgt:∀(i:Nat) x H',xs[i]?=some x->aC H H'->∀R:St->Hp->Prop,R (τ i++bO js σ) H'->g x (List.replicate nt none++bO js σ) H' R)
  (val:∀(i:Nat) e H',es[i]?=some e->aC H H'->∀R:VK,(∀v cZ,aC H' cZ->At cZ e v->R v cZ)->te (τ i++bO js σ) H' R)
  (fin:∀acc zs H',aC H H'->H acc=none->H' acc=some (.lst zs)->aj (hid acc H') es zs->Q (.ref acc) H'):gw nt js (xq K tl) g qR te σ H Q:=by
 refine hl _ ⟨a,rfl,⟨xs,cA.of ha⟩,fun acc hacc=>?_⟩
 have ht:∀H',aC H H'->cA K H' a xs:=fun H' s=>cA.of (s _ _ ha)
 refine vZ (es:=es) τ hτ hz hL hacc (fun i H' hi s=>⟨xs,xs[i]'(by omega),ht H' s,eV (by omega)⟩) (fun i H' v cZ hi s y=>?_) (fun H' s=>⟨xs,ht H' s,by omega⟩) val fun zs H' s h1 h2=>fin acc zs H' s hacc h1 h2
 obtain⟨e,y⟩:=y
 subst e
 exact⟨aC.refl _,fun R hR=>tgt i v _ (y xs (ht _ s)) s R hR⟩
section
variable {X:Cx}
def tNo:TS:=fun _ _ _=>False
theorem YZ {st:Stmt}:PS X st tNo:=.mk <| fun _ _ _ _ _ _ h=>h.elim
def Ud (K:PySem.W.Frag) (te:TE) (tp:TO):TE:=fun σ H Q=>te σ H fun x H1=>tp σ H1 fun u H2=>u=some (-1)/\∃(a:Addr) (xs:List V),x=.ref a/\gW K H2 a xs/\∀p,H2 p=none->Q (.ref p) (upd H2 p (.lst xs.reverse))
theorem RN {K:PySem.W.Frag} {e st:Expr} {te:TE} {tp:TO} {pos p2:Pos} (hK:X.K=K) (he:PE X e te) (hp:PO X (some st) tp) (hsub:∀v r,∃ops,subscripted (.Slice none none (some st) p2) false v r=operate ops (getItem v r):=by intro _ _; exact⟨_,by with_unfolding_all rfl⟩):PE X (.Subscript e (.Slice none none (some st) p2) pos) (Ud K te tp):=by
 subst hK
 refine .mk ?_
 intro pins s σ H Q I h
 refine Subscript_ (cB (he pins s σ H _ I h) fun v s1 qx=>?_)
 obtain⟨x,H1,I1,r1,q1⟩:=qx
 refine wpAny_Slice ?_
 rw[evalPart_none]
 refine bK (bK ?_)
 refine cB (hp pins s1 σ H1 _ I1 q1) fun vu s3 qx=>?_
 obtain⟨u,H3,I3,pu,q3⟩:=qx
 obtain⟨rfl,a,xs,rfl,hx,q⟩:=q3
 cases r1
 have I4:Inv X pins σ H3 { s3 with heap:=s3.heap.push { cls:=.type "slice",data:=.fields #[.none,.none,vu] } }:=I3.kept (t':=s3.toks) fun b ob q=>gb _ q
 obtain⟨its,r,ht,hz⟩:=I4.list hx
 have hlen:=r.length
 obtain⟨ops,ho⟩:=hsub (.ref a) (.ref s3.heap.objs.size)
 refine tail_any (ops:=ops) ht.isList.typeIs slot_list_getitem.lookup ?_ ho
 refine wpAny_getItem_list_slice ht.isList (Heap.IsSliceOf.new ..) .none .none pu (by simp) ?_ (by rw[fJ] <;> omega)
 rw[PySem.W.krv_pick]
 refine⟨.ref _,_,I4.laid (t':=s3.toks) (o:=.lst xs.reverse) (fun b ob q=>gb _ q) (cW _) ?_,rfl,q _ (I4.hok.fresh (cW _))⟩
 exact⟨by rw[List.length_reverse]; exact nR (by omega) hz,_,0,r.reverse,dX _ rfl⟩
end
def Zx:V->Option Str
 | .int i=>if i.natAbs.log2<1920 then some (Str.ofString (toString i)) else none
 | .str z=>some z
 | _=>none
def tFv (te:TE):TE:=fun σ H Q=>te σ H fun x H1=>∃z,Zx x=some z/\z.length<=sizeLine/\Q (.str z) H1
abbrev TJ:=Str->St->Hp->(Str->Hp->Prop)->Prop
section
variable {X:Cx}
theorem UT {e:Expr} {te:TE} {pos:Pos} (he:PE X e te):PE X (.FormattedValue e (-1) none pos) (tFv te):=by
 refine .mk ?_
 intro pins s σ H Q I h
 refine FormattedValue_plain (cB (he pins s σ H _ I h) fun v s1 qx=>?_)
 obtain⟨x,H1,I1,r1,z,hz,hl,q⟩:=qx
 cases x with
 | int i=>
  obtain⟨t,rfl⟩:=r1
  by_cases hd:i.natAbs.log2<1920
  ·have e:z=Str.ofString (toString i):=(Option.some.inj ((aM hd).symm.trans hz)).symm
   subst e
   exact formatField_int_small hd ⟨.str _,H1,I1.tok _,⟨_,rfl⟩,q⟩
  ·have e:(none:Option Str)=some z:=(aK hd).symm.trans hz
   cases e
 | str y=>
  obtain⟨t,rfl⟩:=r1
  cases hz
  exact formatField_str (fun t' tk=>⟨.str _,H1,I1.tok _,⟨_,rfl⟩,q⟩) hl
 | _=>cases hz
structure PJ (X:Cx) (es:List Expr) (t:TJ):Prop where
 mk ::
 go:∀(acc:Str) (pins:List (Addr×Obj)) (s:Shared) (σ:St) (H:Hp) (R:Str->Hp->Prop),Inv X pins σ H s->t acc σ H R ->
  Joins (model X.prog X.w) X.A X.xe (evalEach es X.env) acc (fun out s'=>∃H',Inv X pins σ H' s'/\R out H') s
def tJ0:TJ:=fun acc _ H R=>R acc H
def tJ1 (te:TE) (t:TJ):TJ:=fun acc σ H R=>te σ H fun x H1=>∃y,x=.str y/\(acc++y).length<=sizeLine/\t (acc++y) σ H1 R
def tJs (t:TJ):TE:=fun σ H Q=>t Str.empty σ H fun out H'=>out.length<=sizeLine/\Q (.str out) H'
theorem Joins.mono {M:Model} {A:Around} {E:Value->Shared->Prop}:∀{ps:List (Sem Value)} {acc:Str} {Q Q':Str->Shared->Prop} {s:Shared},(∀o s',Q o s'->Q' o s')->Joins M A E ps acc Q s->Joins M A E ps acc Q' s
 | [],_,_,_,_,h,j=>h _ _ j
 | _::_,_,_,_,_,h,j=>fV j (fun _ _ ⟨y,t,e,l,r⟩=>⟨y,t,e,l,Joins.mono h r⟩) fun _ _ e=>e
theorem N7:PJ X [] tJ0:=.mk fun acc pins s σ H R I h=>⟨H,I,h⟩
theorem nJ {e:Expr} {es:List Expr} {te:TE} {t:TJ} (he:PE X e te) (hr:PJ X es t):PJ X (e::es) (tJ1 te t):=by
 refine .mk fun acc pins s σ H R I h=>?_
 show wpAny _ _ (eval e X.env) _ _ s
 refine cB (he pins s σ H _ I h) fun v s1 qx=>?_
 obtain⟨x,H1,I1,r1,y,ex,hl,q⟩:=qx
 subst ex
 obtain⟨t',rfl⟩:=r1
 exact⟨y,t',rfl,hl,hr.go _ pins s1 σ H1 R I1 q⟩
theorem UL {a b:Expr} {r:List Expr} {t:TJ} {pos:Pos} (h:PJ X (a::b::r) t):PE X (.JoinedStr (a::b::r) pos) (tJs t):=by
 refine .mk fun pins s σ H Q I hw=>?_
 refine wpAny_JoinedStr (Joins.mono ?_ (h.go Str.empty pins s σ H _ I hw))
 rintro o s' ⟨H',I',hl,q⟩
 exact⟨hl,.str o,H',I'.tok _,⟨_,rfl⟩,q⟩
def aaK (K:PySem.W.Frag) (ta:TE):TT:=fun σ H Q=>ta σ H fun x H'=>∃k,acb K x H' k/\Q k H'
end
def tx (l:List Nat):Str:=⟨l.toArray⟩
theorem qP (l:List Nat):(tx l).length=l.length:=by show l.toArray.size=_; simp
theorem Ye {z:Str} {l:List Nat} (h:z.cps.toList=l):z=tx l:=by subst h; cases z; simp[tx]
def dg (n:Int):List Nat:=(Nat.toDigits 10 n.toNat).map Char.toNat
theorem Vy {n:Int} (h:0<=n):Str.ofString (toString n)=tx (dg n):=by
 obtain⟨m,rfl⟩:=Int.eq_ofNat_of_zero_le h
 exact Ye (PySem.W.KIN.signs_num m)
theorem Qm {n:Int} {k:Nat} (hk:0<k) (h1:n<10 ^ k):(dg n).length<=k:=by
 unfold dg
 rw[bR]
 refine(Nat.length_toDigits_le_iff (by decide) hk).mpr ?_
 by_cases h0:0<=n
 ·have:(n.toNat:Int)<((10 ^ k:Nat):Int):=by rw[Int.toNat_of_nonneg h0]; simpa using h1
  exact_mod_cast this
 ·rw[show n.toNat=0 by omega]
  exact Nat.pow_pos (by decide)
theorem Kz {m:Nat} (h:m<=1000000000000):m.log2<1920:=by
 by_cases e:m=0
 ·subst e; decide
 ·rw[Nat.log2_lt e]
  exact Nat.lt_of_le_of_lt h (jV (show 1000000000000<2 ^ 40 by decide) (J4 (by decide) (by decide)))
theorem Qi {n:Int} (h0:0<=n) (h1:n<=1000000000000):Zx (.int n)=some (tx (dg n)):=by
 show(if n.natAbs.log2<1920 then some (Str.ofString (toString n)) else none)=_
 rw[aM (Kz (by omega)),Vy h0]
section
variable {X:Cx}
end
theorem Th {K:PySem.W.Frag} {js:List Nat} {a:Addr} {xs:List V} {tl te:TE} {σ:St} {H:Hp} {Q:VK} (hl:∀R:VK,R (.ref a) H->tl σ H R) (ha:H a=some (.lst xs)) (hz:xs.length<=sizeLine)
  (h:∀acc,H acc=none->∃Pv:Nat->List V->Hp->Prop,Pv 0 [] (upd H acc (.lst []))/\(∀i ys H',i<=xs.length->Pv i ys H'->ys.length=i/\H' a=some (.lst xs)/\H' acc=some (.lst ys)) /\
   (∀i x ys H',xs[i]?=some x->Pv i ys H'->∀R:VK,(∀y cZ,cZ acc=some (.lst ys)->Pv (i+1) (ys++[y]) (upd cZ acc (.lst (ys++[y])))->R y cZ)->te (some x::bO js σ) H' R) /\
   ∀ys H',Pv xs.length ys H'->Q (.ref acc) H'):gq js (yI K tl) te σ H Q:=by
 refine hl _ ⟨a,rfl,⟨xs,gW.of ha⟩,fun acc hacc=>?_⟩
 obtain⟨Pv,p0,keep,step,fin⟩:=h acc hacc
 refine⟨fun i m ys H2=>m=xs.length-i/\i<=xs.length/\Pv i ys H2,⟨_,rfl,e_ _,p0⟩,?_⟩
 rintro i m ys H2 ⟨rfl,hi,p⟩
 obtain⟨ly,ka,kc⟩:=keep i ys H2 hi p
 by_cases hlt:i<xs.length
 ·refine .inr ⟨⟨xs,xs[i],gW.of ka,eV hlt⟩,fun x H3 y=>?_⟩
  obtain⟨e,y⟩:=y
  subst e
  exact step i x ys H3 (y xs (gW.of ka)) p _ fun y' H4 e4 p4=>⟨e4,by omega,xs.length-(i+1),by omega,rfl,hlt,p4⟩
 ·have e:i=xs.length:=by omega
  subst e
  exact .inl ⟨⟨xs,gW.of ka,cW _⟩,fin _ _ p⟩
end L2
namespace L2
open PySem
structure Pl (n:Nat) (d:PyData):Prop where
 hd:d.hasDict=false
 cl:d.canLay0=true
 dp:d.depth<=n
end L2
namespace L2
open PySem PySem.Spec PyProof.Rows
def Lq (h:Heap) (e:Addr) (cls:Value) (T:Addr):Prop:=∃oe vs,h.get? e=some oe/\(oe.cls=cls/\oe.dict=none)/\oe.data=.fields vs/\vs[1]?=some (.ref T)/\vs[2]?=some .none
def Lk (h:Heap) (T:Addr):Prop:=∃oT ts,h.get? T=some oT/\oT.data=.fields ts/\ts[3]?=some .none
structure Vg (fs:List Addr) (h h':Heap) (e T:Addr) (cls:Value):Prop where
 keep:∀b o,b≠e->b∉fs->h.get? b=some o->h'.get? b=some o
 slot:∀b o,b≠e->h.get? b=some o->∃sl,h'.get? b=some { o with slots:=sl }
 fresh:h.objs.size<=T
 ex:Lq h' e cls T
 tb:Lk h' T
section
variable {M:Model} {A:Around} {E:Value->Shared->Prop} {s:Shared}
theorem vW (o:Obj) (f:Array Value->Array Value):(Obj.mapFields f o).dict=o.dict:=by
 obtain⟨c,d,dt,sl⟩:=o
 cases dt <;> rfl
theorem entryE {base:Heap} {env:Env} {outer:List Env} {L e:Addr} {oe:Obj} {vs:Array Value} {head:Value} {nx:Bool} {Q:Unit->Shared->Prop}
  (fr:A.frames=some (env::outer)) (ff:s.heap.FunFrames base (env::outer)) (fL:env.frame=some L) (he:s.heap.get? e=some oe) (hdn:oe.dict=none) (hd:oe.data=.fields vs) (hz:1<vs.size) (hc:vs[2]?=some .none)
  (q:∀h' T,Vg (frs (env::outer)) s.heap h' e T oe.cls->Q () { s with heap:=h' }) :
  wpAny M A (do
   let a <- frameOf env
   let pl <- entryPlaceOf L nx
   let b <- EntryCells.newEntry head a .none (rawInt L) .none pl
   setField (.ref e) 1 b) (fun _ s'=>wpAny M A (setFlight (.ref e) none) Q E s') E s:=by
 have ne:e∉frs (env::outer):=fun hm=>by
  obtain⟨_,o,ho,hf⟩:=ff.mem hm
  rw[he] at ho
  cases ho
  exact hf vs hd
 refine aN (wpAny_frameOf_fun fr ff fL fun h1 so=>aN (wpAny_entryPlaceOf fun pl hpl=>?_))
 obtain⟨sz,sk,ss⟩:=so
 unfold EntryCells.newEntry newFields
 refine aN (q_ ?_ (hpl.sizeOk5 _ _ _ _ _))
 have e1:h1.get? e=some oe:=(sk e ne).trans he
 have pe:=gb (h:=h1) { cls:=.type "traceback",data:=.fields (([head,.ref L,.none,rawInt L,.none]:List Value)++(if pl.isEmpty then List.replicate 6 .none else pl)).toArray } e1
 have nT:h1.objs.size≠e:=Cz (b_ e1)
 have pT:=dX h1 (o:={ cls:=.type "traceback",data:=.fields (([head,.ref L,.none,rawInt L,.none]:List Value)++(if pl.isEmpty then List.replicate 6 .none else pl)).toArray }) rfl
 have pk:∀b o,h1.get? b=some o->(h1.push { cls:=.type "traceback",data:=.fields (([head,.ref L,.none,rawInt L,.none]:List Value)++(if pl.isEmpty then List.replicate 6 .none else pl)).toArray }).get? b=some o:=fun b o z=>gb _ z
 refine yq pe hd hz ?_
 generalize h1.push { cls:=.type "traceback",data:=.fields (([head,.ref L,.none,rawInt L,.none]:List Value)++(if pl.isEmpty then List.replicate 6 .none else pl)).toArray }=h2 at pe pT pk ⊢
 have dx:=Obj.data_mapFields hd (·.setIfInBounds 1 (Value.ref h1.objs.size))
 have pe3:=w6 (Obj.mapFields (·.setIfInBounds 1 (Value.ref h1.objs.size))) pe (Obj.isFreed_of_fields dx)
 have pT3:=(sW h2 (Obj.mapFields (·.setIfInBounds 1 (Value.ref h1.objs.size))) (Ne.symm nT)).trans pT
 have pk3:∀b o,b≠e->h1.get? b=some o->(h2.update e (Obj.mapFields (·.setIfInBounds 1 (Value.ref h1.objs.size)))).get? b=some o:=fun b o z y=>(sW h2 _ (Ne.symm z)).trans (pk b o y)
 have ce:=Obj.cls_mapFields oe (·.setIfInBounds 1 (Value.ref h1.objs.size))
 generalize h2.update e (Obj.mapFields (·.setIfInBounds 1 (Value.ref h1.objs.size)))=h3 at pe3 pT3 pk3 ⊢
 unfold setFlight
 have v1:(vs.setIfInBounds 1 (Value.ref h1.objs.size))[1]?=some (.ref h1.objs.size):=by simp[hz]
 refine aN (iZ pe3 dx v1 ?_)
 rw[aM (show(Value.ref h1.objs.size != Value.none)=true by simp)]
 refine yq pT3 rfl (by simp only[fJ,gD,nU,List.length_nil] <;> omega) ?_
 have d4:=Obj.data_mapFields (o:={ cls:=.type "traceback",data:=.fields (([head,.ref L,.none,rawInt L,.none]:List Value)++(if pl.isEmpty then List.replicate 6 .none else pl)).toArray }) rfl (·.setIfInBounds 3 ((none:Option Addr).elim Value.none fun f=>rawInt f))
 have pT4:=w6 (Obj.mapFields (·.setIfInBounds 3 ((none:Option Addr).elim Value.none fun f=>rawInt f))) pT3 (Obj.isFreed_of_fields d4)
 have o4:∀b,b≠h1.objs.size->(h3.update h1.objs.size (Obj.mapFields (·.setIfInBounds 3 ((none:Option Addr).elim Value.none fun f=>rawInt f)))).get? b=h3.get? b:=fun b z=>sW h3 _ (Ne.symm z)
 refine q _ h1.objs.size ⟨fun b o z y x=>?_,fun b o z x=>?_,Nat.le_of_eq sz.symm,⟨_,_,(o4 e (Ne.symm nT)).trans pe3,⟨ce,(vW oe _).trans hdn⟩,dx,v1,by rw[Array.getElem?_setIfInBounds]; simpa using hc⟩,⟨_,_,pT4,d4,?_⟩⟩
 ·have x1:h1.get? b=some o:=(sk b y).trans x
  exact(o4 b (gk (b_ x1))).trans (pk3 b o z x1)
 ·obtain⟨sl,x1⟩:=ss b o x
  exact⟨sl,(o4 b (gk (b_ x1))).trans (pk3 b _ z x1)⟩
 ·first | (simp; done) | (rcases hpl with rfl | ⟨_,_,_,_,_,_,_,rfl⟩ <;> simp)
theorem Sw {base:Heap} {env:Env} {outer:List Env} {L e:Addr} {oe:Obj} {vs:Array Value} {Q:Unit->Shared->Prop}
  (fr:A.frames=some (env::outer)) (ff:s.heap.FunFrames base (env::outer)) (fL:env.frame=some L) (he:s.heap.get? e=some oe) (hdn:oe.dict=none) (hd:oe.data=.fields vs) (h1:vs[1]?=some .none) (h2:vs[2]?=some .none)
  (q:∀h' T,Vg (frs (env::outer)) s.heap h' e T oe.cls->Q () { s with heap:=h' }):wpAny M A (leaving env (.ref e)) Q E s:=by
 unfold leaving noteFrame
 simp only[fL]
 refine aN (aN (iZ he hd h1 ?_))
 rw[aK (by decide)]
 exact entryE fr ff fL he hdn hd (xf.mp h1).1 h2 q
structure W_ (fs:List Addr) (h h':Heap) (e T0 T:Addr) (cls:Value):Prop where
 keep:∀b o,b≠e->b≠T0->b∉fs->h.get? b=some o->h'.get? b=some o
 slot:∀b o,b≠e->b≠T0->h.get? b=some o->∃sl,h'.get? b=some { o with slots:=sl }
 old:∃o,h'.get? T0=some o
 fresh:h.objs.size<=T
 ex:Lq h' e cls T
 tb:Lk h' T
theorem noteE2 {base:Heap} {env:Env} {outer:List Env} {L e T0:Addr} {cls:Value} {Q:Unit->Shared->Prop}
  (fr:A.frames=some (env::outer)) (ff:s.heap.FunFrames base (env::outer)) (fL:env.frame=some L) (he:Lq s.heap e cls T0) (hT:Lk s.heap T0) (nT:T0≠e)
  (q:∀h' T,W_ (frs (env::outer)) s.heap h' e T0 T cls->Q () { s with heap:=h' }) :
  wpAny M A (noteFrame (.ref e) env) (fun _ s2=>wpAny M A (setFlight (.ref e) none) Q E s2) E s:=by
 obtain⟨oe,vs,e1,⟨ec,edn⟩,ed,ev,ev2⟩:=he
 obtain⟨oT,ts,t1,td,tv⟩:=hT
 subst ec
 unfold noteFrame
 simp only[fL]
 refine aN (iZ e1 ed ev ?_)
 rw[aM (show(Value.ref T0 != Value.none)=true by simp)]
 refine aN (iZ t1 td tv ?_)
 rw[aK (show ¬((Value.none==rawInt L)=true) by simp[rawInt])]
 have tz:=(xf.mp tv).1
 refine aN (yq t1 td tz ?_)
 have dT:=Obj.data_mapFields td (·.setIfInBounds 3 Value.none)
 have g1:=w6 (Obj.mapFields (·.setIfInBounds 3 Value.none)) t1 (Obj.isFreed_of_fields dT)
 have g2:∀b,b≠T0->(s.heap.update T0 (Obj.mapFields (·.setIfInBounds 3 Value.none))).get? b=s.heap.get? b:=fun b z=>sW _ _ (Ne.symm z)
 have gz:(s.heap.update T0 (Obj.mapFields (·.setIfInBounds 3 Value.none))).objs.size=s.heap.objs.size:=Heap.size_after_update ..
 have f2:(s.heap.update T0 (Obj.mapFields (·.setIfInBounds 3 Value.none))).FunFrames base (env::outer):=ff.of_keeps fun b o ho hf=>⟨o,(g2 b fun z=>by
  rw[z,t1] at ho
  cases ho
  exact hf ts td).trans ho,rfl⟩
 generalize s.heap.update T0 (Obj.mapFields (·.setIfInBounds 3 Value.none))=h2 at g1 g2 gz f2 ⊢
 refine entryE (s:={ s with heap:=h2 }) fr f2 fL ((g2 e (Ne.symm nT)).trans e1) edn ed (xf.mp ev).1 ev2 fun h' T l=>?_
 have nf:T0∉frs (env::outer):=fun hm=>by
  obtain⟨_,o,ho,hf⟩:=ff.mem hm
  rw[t1] at ho
  cases ho
  exact hf ts td
 exact q h' T ⟨fun b o z y x u=>l.keep b o z x ((g2 b y).trans u),fun b o z y u=>l.slot b o z ((g2 b y).trans u),⟨_,l.keep _ _ nT nf g1⟩,by rw[<- gz]; exact l.fresh,l.ex,l.tb⟩
end
section
variable {P:Program} {w:World} {H H':Hp} {h h':Heap} {a:Addr} {o:HO}
theorem cL.there (x:cL P w H h a o):∃u,h.get? a=some u:=by
 cases o with
 | lst xs=>obtain⟨_,_,_,_,e⟩:=x; exact⟨_,e⟩
 | tup xs=>obtain⟨_,_,_,ob,e,_⟩:=x; exact⟨_,e⟩
 | dK kvs=>obtain⟨_,_,_,_,o,_,_,e,_⟩:=x; exact⟨_,e⟩
 | dT kvs=>obtain⟨_,_,_,_,o,_,_,e,_⟩:=x; exact⟨_,e⟩
 | set S n=>obtain⟨o,_,_,_,e,_⟩:=x; exact⟨_,e⟩
 | ins C dx fs=>obtain⟨_,_,_,e,_⟩:=x; exact⟨_,e⟩
 | own y=>exact x
 | xd fs=>obtain⟨_,⟨_,_,_,e,_⟩,_⟩:=x; exact⟨_,e⟩
 | Rn lo hi=>obtain⟨_,_,_,e⟩:=x; exact⟨_,e⟩
 | Ja ob u=>obtain⟨e,_⟩:=x; exact⟨_,e⟩
 | Uc ps=>exact⟨_,(show h.get? a=some _ from x)⟩
 | met f y=>exact⟨_,(show h.get? a=some _ from x)⟩
 | ext φ=>obtain⟨_,e,_⟩:=x; exact e
theorem lK.none (x:lK P w H h) (e:h.get? a=none):H a=none:=by
 cases q:H a with
 | none=>rfl
 | some u=>
  obtain⟨v,z⟩:=(x a u q).there
  rw[e] at z; cases z
def wN (e:Addr) (cls:Value) (T:Addr):HO:=.ext fun h=>Lq h e cls T
def xJ (T:Addr):HO:=.ext fun h=>Lk h T
def QR (T:Addr):HO:=.ext fun h=>∃o,h.get? T=some o
theorem Ot {e T:Addr} {cls:Value} (x:Lq h e cls T):cL P w H h e (wN e cls T):=by
 refine⟨x,?_,?_⟩
 ·obtain⟨oe,vs,e1,_⟩:=x; exact⟨_,e1⟩
 ·rintro h1 h2 ⟨oe,vs,e1,r⟩ k
  exact⟨oe,vs,k _ e1,r⟩
theorem Ia {T:Addr} (x:Lk h T):cL P w H h T (xJ T):=by
 refine⟨x,?_,?_⟩
 ·obtain⟨oe,vs,e1,_⟩:=x; exact⟨_,e1⟩
 ·rintro h1 h2 ⟨oe,vs,e1,r⟩ k
  exact⟨oe,vs,k _ e1,r⟩
theorem U4 {T:Addr} (x:∃o,h.get? T=some o):cL P w H h T (QR T):=by
 refine⟨x,x,?_⟩
 rintro h1 h2 ⟨oe,e1⟩ k
 exact⟨oe,k _ e1⟩
theorem wN.at {e T:Addr} {cls:Value} (x:cL P w H h e (wN e cls T)):Lq h e cls T:=x.1
theorem xJ.at {T:Addr} (x:cL P w H h T (xJ T)):Lk h T:=x.1
theorem lK.ext (x:lK P w H h) (S:Addr->Prop) (k:∀b u v,H b=some u->¬S b->h.get? b=some v->h'.get? b=some v) (hs:∀b,S b->H b=Option.none\/∃φ,H b=some (.ext φ))
  (o1:∀b,¬S b->H' b=H b) (o2:∀b u,S b->H' b=some u->cL P w H' h' b u):lK P w H' h':=fun b u e=>by
 by_cases z:S b
 ·exact o2 b u z e
 ·rw[o1 b z] at e
  refine(x b u e).stay (fun c v q y=>?_) (fun c q=>?_) (fun c xs q=>?_)
  ·rcases q with q | q
   ·subst q; exact k c u v e z y
   ·exact k c _ v q (fun y'=>(hs c y').elim (fun n=>by rw[n] at q; cases q) fun⟨φ,n⟩=>by rw[n] at q; cases q) y
  ·rw[o1 c fun y'=>(hs c y').elim (fun n=>by rw[n] at q; cases q) fun⟨φ,n⟩=>by rw[n] at q; cases q]; exact q
  ·rw[o1 c fun y'=>(hs c y').elim (fun n=>by rw[n] at q; cases q) fun⟨φ,n⟩=>by rw[n] at q; cases q]; exact q
end
def lR (P:Program) (w:World):Jw:=fun outer H s E e s'=>∃(a T:Addr) (cls:Value) (H':Hp),e=.ref a/\s'.os=s.os/\AllBare s'.gens/\Un (frs outer) [] H H' s.heap s'.heap/\lK P w H' s'.heap /\
 H' a=some (wN a cls T)/\H' T=some (xJ T)/\T≠a/\(s.heap.get? a=none/\s.heap.get? T=none)/\E cls none H'
section
variable {P:Program} {w:World} {K:PySem.W.Frag} {mg:Str->Option Value} {base:Heap} {N:List Str} {qual:Str} {scope:Scope} {f:Addr} {cd:Value} {A:Around} {outer:List Env} {s0:Shared} {H0:Hp} {E:XK}
theorem Fo {pins:List (Addr×Obj)} {σ:St} {H:Hp} {s:Shared} {h2:Heap} {e C:Addr} {us:List Value} (I:Inv (fO (lR P w) P w K mg base N qual scope f cd A outer s0 H0 E) pins σ H s)
  (m:Heap.MadeExcOf s.heap h2 e (.ref C) us) (K5:lK P w H0 s0.heap) (q:∀H',aC H H'->E (.ref C) none H'):(fO (lR P w) P w K mg base N qual scope f cd A outer s0 H0 E).xe (.ref e) { s with heap:=h2 }:=by
 obtain⟨t,he,_,_⟩:=m.there
 have ff:h2.FunFrames base (envOfC qual scope s0.heap.objs.size f cd::outer):=(I.stack:s.heap.FunFrames base (envOfC qual scope s0.heap.objs.size f cd::outer)).of_keeps fun b o ho _=>⟨o,m.keeps b o ho,rfl⟩
 have fr:(A.deeper (envOfC qual scope s0.heap.objs.size f cd)).frames=some (envOfC qual scope s0.heap.objs.size f cd::outer):=I.ok.frames
 refine Sw (s:={ s with heap:=h2 }) fr ff rfl he rfl rfl rfl rfl fun h3 T l=>?_
 have ne:H e=none:=I.hok.none m.new
 have nT:H T=none:=I.hok.none (by
  cases z:s.heap.get? T with
  | none=>rfl
  | some o=>exact absurd (b_ (m.keeps _ _ z)) (Nat.not_lt.mpr l.fresh))
 have Te:T≠e:=fun z=>by
  obtain⟨oe,vs,e1,e2,e3,e4⟩:=l.ex
  obtain⟨oT,ts,t1,t2,t3⟩:=l.tb
  have:=b_ he
  have:=l.fresh
  have:e<h2.objs.size:=b_ he
  subst z
  exact absurd this (Nat.not_lt.mpr l.fresh)
 have iL:∀b o,s0.heap.get? b=some o->b≠s0.heap.objs.size:=fun b o z=>gk (b_ z)
 have ib:Un (frs outer) [] H0 H s0.heap s.heap:=I.base
 have u1:∀b,b≠T->b≠e->upd (upd H e (wN e (.ref C) T)) T (xJ T) b=H b:=fun b y z=>by rw[aL y,aL z]
 have nb:∀b o,s.heap.get? b=some o->b≠e:=fun b o z y=>by rw[y,m.new] at z; cases z
 have nbT:∀b o,s.heap.get? b=some o->b≠T:=fun b o z y=>by
  have a1:=b_ (m.keeps b o z)
  have a2:h2.objs.size<=T:=l.fresh
  subst y
  exact Nat.not_lt.mpr a2 a1
 have nf:∀b,b∉frs outer->b≠s0.heap.objs.size->b∉frs (envOfC qual scope s0.heap.objs.size f cd::outer):=fun b y z hm=>by
  rcases b8.mp (show b∈s0.heap.objs.size::frs outer from hm) with x | x
  ·exact z x
  ·exact y x
 have hu:∀b u,H b=some u->b≠e/\b≠T:=fun b u z=>⟨fun y=>(by rw[y,ne] at z; cases z),fun y=>(by rw[y,nT] at z; cases z)⟩
 refine⟨e,T,.ref C,upd (upd H e (wN e (.ref C) T)) T (xJ T),rfl,I.os,I.bare,⟨fun b o z n y _=>?_,fun b o z n y x=>?_,fun b o z n x=>?_,fun b o z x=>?_,fun b xs z=>?_,fun b o u z=>?_,fun b ps z=>?_⟩,?_,?_,az,Te,⟨?_,?_⟩,?_⟩
 ·have g:=ib.keep b o z n y (by simp)
  exact l.keep b o (nb b o g) (nf b y (iL b o z)) (m.keeps b o g)
 ·obtain⟨sl,g⟩:=ib.slot b o z n y x
  obtain⟨sl2,g2⟩:=l.slot b _ (nb b _ g) (m.keeps b _ g)
  exact⟨sl2,g2⟩
 ·obtain⟨o',g⟩:=ib.there b o z x
  rw[u1 b (nbT b _ g) (nb b _ g)]
  exact ib.free b o z n x
 ·obtain⟨o',g⟩:=ib.there b o z x
  obtain⟨sl2,g2⟩:=l.slot b _ (nb b _ g) (m.keeps b _ g)
  exact⟨_,g2⟩
 ·have g:=ib.tups b xs z
  rw[u1 b (hu b _ g).2 (hu b _ g).1]; exact g
 ·have g:=ib.xu b o u z
  rw[u1 b (hu b _ g).2 (hu b _ g).1]; exact g
 ·obtain⟨more,g⟩:=ib.zu b ps z
  exact⟨more,by rw[u1 b (hu b _ g).2 (hu b _ g).1]; exact g⟩
 ·refine(show lK P w H s.heap from I.hok).ext (fun b=>b=e\/b=T) (fun b u v z y x=>?_) (fun b z=>?_) (fun b z=>?_) (fun b u z y=>?_)
  ·have g:=(I.hok b u z).there
   refine l.keep b v (fun q=>y (.inl q)) (fun hm=>?_) (m.keeps b v x)
   have:=I.tR b hm
   rw[z] at this; cases this
  ·rcases z with rfl | rfl
   ·exact .inl ne
   ·exact .inl nT
  ·exact u1 b (fun q=>z (.inr q)) fun q=>z (.inl q)
  ·rcases z with rfl | rfl
   ·rw[aL (Ne.symm Te),az] at y
    cases y
    exact Ot l.ex
   ·rw[az] at y
    cases y
    exact Ia l.tb
 ·rw[aL (Ne.symm Te),az]
 ·cases z:s0.heap.get? e with
  | none=>rfl
  | some o=>
   obtain⟨o',g⟩:=ib.there e o z (by simp)
   rw[m.new] at g; cases g
 ·cases z:s0.heap.get? T with
  | none=>rfl
  | some o=>
   obtain⟨o',g⟩:=ib.there T o z (by simp)
   exact absurd rfl (nbT T o' g)
 ·exact q _ ((aO ne _).trans (aO (by rw[aL Te]; exact nT) _))
end
def Vq:List Value:=[.type "ValueError",.type "Exception",.type "BaseException",.type "object"]
structure ExC (K:PySem.W.Frag) (mg:Str->Option Value) (x:Str) (C:Addr):Prop where
 bound:mg x=some (.ref C)
 ok:PySem.W.excIn K C Vq "ValueError.__new__" = true
theorem ExC.obj {K:PySem.W.Frag} {C:Addr} {h:Heap} (X:K.In h) (q:PySem.W.excIn K C Vq "ValueError.__new__" = true) :
  ∃bm N nm qn bs hdct sn sub ab col dd k0 k1 k2 k3 k5 mN,h.get? C=some (excClassObj nm qn C N bs bm hdct sn sub ab col dd k0 k1 k2 k3 k5 "ValueError.__new__")/\h.Ns N mN/\mN "__init__" = none/\OwnTail h Vq bm:=by
 unfold PySem.W.excIn at q
 split at q
 ·rename_i dd cd sl ho
  split at q
  ·rename_i C' bm k0 k1 k2 k3 n k5 hm hs
   simp only[wW,beq_iff_eq,Bool.not_eq_true'] at q
   obtain⟨⟨⟨⟨⟨rfl,rfl⟩,a1⟩,a2⟩,a3⟩,a4⟩:=q
   cases cd with
   | mk nm bs mro ns qn hd sn sub ab col del=>
    dsimp only at hm a1 a3 a4
    subst hm a1
    obtain⟨l⟩:=sl
    have e:l=[k0,k1,k2,k3,some (.builtin "ValueError.__new__"),k5]:=hs
    subst e
    exact⟨bm,ns,nm,qn,bs,hd,sn,sub,ab,col,dd,k0,k1,k2,k3,k5,_,X _ _ ho,.of_isNs (PySem.W.isNs_of_in X a3),PySem.W.nsMap_none_of_in X a3 a4,PySem.W.tail_of_in X a2⟩
  ·cases q
 ·cases q
def My (E:XK) (C:Addr) (ta:TA):TS:=fun _ σ H=>ta σ H fun vs H1=>vs.length<=sizeLine/\∀H',aC H1 H'->E (.ref C) none H'
section
variable {P:Program} {w:World} {K:PySem.W.Frag} {mg:Str->Option Value} {base:Heap} {N:List Str} {qual:Str} {scope:Scope} {f:Addr} {cd:Value} {A:Around} {outer:List Env} {s0:Shared} {H0:Hp} {E:XK}
theorem Dd {x:Str} {C:Addr} {e0:Expr} {np cpos pos:Pos} {ta:TA} (c:ExC K mg x C) (K5:lK P w H0 s0.heap) (ha:PA (fO (lR P w) P w K mg base N qual scope f cd A outer s0 H0 E) [e0] ta) (hg:Gl (fO (lR P w) P w K mg base N qual scope f cd A outer s0 H0 E) x:=by rfl)
  (hd:(x==("__debug__" : Str))=false:=by decide)
  (he:starEach [e0] (fO (lR P w) P w K mg base N qual scope f cd A outer s0 H0 E).env=[(false,eval e0 (fO (lR P w) P w K mg base N qual scope f cd A outer s0 H0 E).env)]:=by rfl) :
  PS (fO (lR P w) P w K mg base N qual scope f cd A outer s0 H0 E) (.Raise (some (.Call (.Name x np) [e0] [] cpos)) none pos) (My E C ta):=by
 refine .mk ?_
 intro pins s σ H D I h
 obtain⟨bm,N1,nm,qn,bs,hdct,sn,sub,ab,col,dd,k0,k1,k2,k3,k5,mN,hC,hN,hni,T⟩:=ExC.obj (show K.In base from I.mod.Ls) c.ok
 have bk:∀{s:Shared} {H:Hp} {σ:St},Inv (fO (lR P w) P w K mg base N qual scope f cd A outer s0 H0 E) pins σ H s->∀b o,base.get? b=some o->s.heap.get? b=some o:=fun I=>I.bk
 refine wpAny_Raise_call_subU (C:=C) (nm:=nm) (q:=qn) (N:=N1) (bs:=bs) (bm:=bm) (hdct:=hdct) (sn:=sn) (sub:=sub) (ab:=ab) (col:=col) (dd:=dd) (k0:=k0) (k1:=k1) (k2:=k2) (k3:=k3) (k5:=k5) (newId:="ValueError.__new__")
  PySem.F.excBase_ValueError (by decide) PySem.F.excBase_ValueError (mN:=mN) (T.hasType PySem.F.excBase_ValueError.hasBase) (I.ok.hd rfl) (by rw[he]; rfl) hni (qu I hg c.bound ⟨rfl,?_⟩ hd)
 have g:=ha cpos pins s σ H _ I h
 rw[he] at g ⊢
 refine Calls.evalArgs_plain (fV g (fun us s2 z=>?_) fun _ _ y=>y)
 obtain⟨vs,H2,I2,rv,l2,q2⟩:=z
 refine⟨rfl,by rw[<- rv.length]; exact l2,bk I2 _ _ hC,hN.keeps (bk I2),T.keeps (bk I2),fun h' e m=>Fo I2 m K5 q2⟩
end
section
variable {X:Cx} {pins:List (Addr×Obj)} {σ:St} {H:Hp} {s:Shared}
end
section
variable {X:Cx} {pins:List (Addr×Obj)} {σ:St} {H:Hp} {s:Shared}
abbrev Cx.in' (X:Cx) (e:Value):Cx:={ X with A:=X.A.mark (some e),calm:=false }
theorem Inv.inE (I:Inv X pins σ H s) (e:Value):Inv (X.in' e) pins σ H s:=
 ⟨⟨I.ok.mod,I.ok.kind,I.ok.glob,I.ok.blt,I.ok.above,I.ok.inj,I.ok.has,I.ok.cab,(fun z=>nomatch z),I.ok.frames,I.ok.Yr,I.ok.Zz,I.ok.bs,I.ok.Qy,I.ok.Gd,I.ok.Gp,I.ok.tH,I.ok.WK⟩,I.os,I.bare,I.base,I.loc,I.cell,I.free,I.j6,I.pin,I.hok,I.len⟩
theorem Inv.RV {e:Value} (I:Inv (X.in' e) pins σ H s) (ok:X.Ok):Inv X pins σ H s:=⟨ok,I.os,I.bare,I.base,I.loc,I.cell,I.free,I.j6,I.pin,I.hok,I.len⟩
theorem Inv.ext {H':Hp} {h':Heap} (I:Inv X pins σ H s) (S:Addr->Prop) (keep:∀b o,¬S b->b∉frs X.stack->s.heap.get? b=some o->h'.get? b=some o) (slot:∀b o,¬S b->s.heap.get? b=some o->∃sl,h'.get? b=some { o with slots:=sl })
  (there:∀b o,S b->s.heap.get? b=some o->∃o',h'.get? b=some o') (hs:∀b,S b->(H b=none/\s.heap.get? b=none)\/∃φ,H b=some (.ext φ))
  (o1:∀b,¬S b->H' b=H b) (o2:∀b u,S b->H' b=some u->cL X.prog X.w H' h' b u):Inv X pins σ H' { s with heap:=h' }:=by
 have un:∀b o,s.heap.get? b=some o->H b=none->¬S b:=fun b o e n z=>by
  rcases hs b z with⟨_,q⟩ | ⟨φ,q⟩
  ·rw[e] at q; cases q
  ·rw[n] at q; cases q
 have tr:∀b u,H b=some u->(∀φ,u≠.ext φ)->H' b=some u:=fun b u e n=>by
  rw[o1 b fun z=>(hs b z).elim (fun q=>by rw[q.1] at e; cases e) fun⟨φ,q⟩=>by rw[q] at e; cases e; exact n φ rfl]
  exact e
 refine I.call (ch:=[]) (g':=s.gens) (t':=s.toks) (d':=s.drawn) ⟨fun b o e n hb _=>keep b o (un b o e n) hb e,fun b o e n hb _=>slot b o (un b o e n) e,fun b o e n _=>(by rw[o1 b (un b o e n)]; exact n),fun b o e _=>?_,fun b xs e=>tr b _ e (fun φ z=>by cases z),fun b o u e=>tr b _ e (fun φ z=>by cases z),fun b ps e=>⟨#[],(by rw[tr b _ e (fun φ z=>by cases z)]; simp)⟩⟩ ?_ I.bare fun b z=>nomatch z
 ·by_cases z:S b
  ·exact there b o z e
  ·obtain⟨sl,q⟩:=slot b o z e; exact⟨_,q⟩
 ·refine I.hok.ext S (fun b u v e z q=>?_) (fun b z=>(hs b z).elim (fun q=>.inl q.1) .inr) o1 o2
  refine keep b v z (fun hm=>?_) q
  have:=I.tR b hm
  rw[e] at this; cases this
theorem K6 {M:Model} {A:Around} {E:Value->Shared->Prop} {a T:Addr} {cls:Value} {Q:Unit->Shared->Prop} (I:Inv X pins σ H s) (ha:H a=some (wN a cls T)) (hT:H T=some (xJ T)) (q:∀s',Inv X pins σ H s'->Q () s') :
  wpAny M A (setFlight (.ref a) none) Q E s:=by
 obtain⟨oe,vs,e1,ec,ed,ev,_⟩:=wN.at (I.hok a _ ha)
 obtain⟨oT,ts,t1,td,tv⟩:=xJ.at (I.hok T _ hT)
 unfold setFlight
 refine aN (iZ e1 ed ev ?_)
 rw[aM (show(Value.ref T != Value.none)=true by simp)]
 have tz:=(xf.mp tv).1
 refine yq t1 td tz ?_
 have dT:=Obj.data_mapFields td (·.setIfInBounds 3 ((none:Option Addr).elim Value.none fun f=>rawInt f))
 have g1:=w6 (Obj.mapFields (·.setIfInBounds 3 ((none:Option Addr).elim Value.none fun f=>rawInt f))) t1 (Obj.isFreed_of_fields dT)
 have g2:∀b,b≠T->(s.heap.update T (Obj.mapFields (·.setIfInBounds 3 ((none:Option Addr).elim Value.none fun f=>rawInt f)))).get? b=s.heap.get? b:=fun b z=>sW _ _ (Ne.symm z)
 refine q _ (I.ext (fun b=>b=T) (fun b o z _ e=>(g2 b z).trans e) (fun b o z e=>⟨o.slots,(g2 b z).trans e⟩) (fun b o z e=>by subst z; exact⟨_,g1⟩) (fun b z=>.inr (by subst z; exact⟨_,hT⟩)) (fun _ _=>rfl) fun b u z e=>?_)
 subst z
 rw[hT] at e
 cases e
 exact Ia ⟨_,_,g1,dT,by simp[tz]⟩
end
def ZX (H:Hp) (a:Addr) (cls:Value):Prop:=∃T,H a=some (wN a cls T)
section
variable {X:Cx} {pins:List (Addr×Obj)} {σ:St} {H1:Hp} {s1 s':Shared}
end
section
variable {P:Program} {w:World} {K:PySem.W.Frag} {mg:Str->Option Value} {base:Heap}
theorem Qh {CX:Jw} {k:Nat} {f:Addr} {name qual:Str} {params:Arguments} {body:List Stmt} {scope:Scope} {dV kV doc pm cdv ct oc:Value} {an od:Option Addr}
  {osl:Array (Option Value)} {N ps:List Str} {sp:Sp} (lk:K.lookup f=some ⟨oc,od,.func (PySem.W.fnOf name qual params body scope dV kV doc pm an cdv ct),osl⟩) (hcd:PySem.W.codeIn K cdv qual=true) (S:aR N ps scope)
  (len:∀vs H Q E,sp vs H Q E->vs.length=ps.length)
  (hbody:∀(A:Around) (outer:List Env) (s:Shared) (H:Hp) (vs:List V) (Q:VK) (E:XK),lK P w H s.heap->gM k (A.deeper (envOfC qual scope s.heap.objs.size f cdv))->sp vs H Q E ->
   ∃t,xK (fO CX P w K mg base N qual scope f cdv A outer s H E) body t/\t { nx:=fun _ H'=>Q .non H',rt:=Q } (start N vs) H) :
  bM P w K mg base CX (k+1) f (PySem.W.fnOf name qual params body scope dV kV doc pm an cdv ct) ps sp:=by
 refine⟨len,fun A outer s H args us vs Q E hr e0 hb r hsp=>?_⟩
 have hl:=len _ _ _ _ hsp
 have KX:K.In s.heap:=e0.mod.Ls.keeps fun b o e=>(e0.bs b o e).1
 have lim:s.heap.NoLimit:=e0.mod.nolimit.keeps fun b o e=>(e0.bs b o e).1
 have hkind:∀y∈ps.zip us,scope.names.lookup y.1=some .local\/(scope.names.lookup y.1=some .cell/\((cellsFrom (s.heap.objs.size+1) scope.names []).lookup y.1).isSome=true):=fun⟨n,v⟩ hy=>by
  rcases S.par n (List.of_mem_zip hy).1 with q | q
  ·exact .inl q
  ·exact .inr ⟨q,PySem.W.cellsFrom_some _ _ _ (.inl q)⟩
 refine codeAny_call_function hr.depth (KX _ _ lk) rfl S.co S.gen rfl (PySem.W.codeRec_of KX hcd) (hb _ _ _ _ ?_)
 refine wpAny_newFunctionEnv_cells S.kind hkind fun env he s1 x=>?_
 subst he
 refine⟨lim.keeps x.toInCall.keep,codeAny_func ?_⟩
 obtain⟨t,ht,hq⟩:=hbody A outer s H vs Q E e0.hok (hr.deeper _) hsp
 have I:Inv (fO CX P w K mg base N qual scope f cdv A outer s H E) [] (start N vs) H s1:=yG S hr.hd e0 hl r x
 refine fV (ht [] s1 (start N vs) H _ I hq) (fun fl s' hs=>?_) fun e s' hs=>hs
 have fin:∀{σ':St} {H':Hp} {v:V} {u:Value},Inv (fO CX P w K mg base N qual scope f cdv A outer s H E) [] σ' H' s'->RelV v u->Q v H'->CE outer P w H s Q u s':=
  fun {σ' H' v u} J rv q=>⟨v,H',J.os,J.bare,J.base,J.hok,rv,q⟩
 cases fl with
 | ret u=>
  obtain⟨v,σ',H',J,rv,q⟩:=hs
  exact fin J rv q
 | next=>
  obtain⟨σ',H',J,q⟩:=hs
  exact fin (v:=V.non) (u:=Value.none) J rfl q
 | brk=>
  obtain⟨_,_,_,q⟩:=hs
  exact False.elim q
 | cont=>
  obtain⟨_,_,_,q⟩:=hs
  exact False.elim q
theorem jk.Xj {x qual:Str} {st:Stmt} {f:Addr} {fd:FuncData} {N ps:List Str} {k:Nat} {sp:Sp} (F:jk K x qual st f fd) (S:aR N ps (aH st)) (len:∀vs H Q E,sp vs H Q E->vs.length=ps.length)
  (hbody:∀(cdv:Value) (A:Around) (outer:List Env) (s:Shared) (H:Hp) (vs:List V) (Q:VK) (E:XK),lK P w H s.heap->gM k (A.deeper (envOfC qual (aH st) s.heap.objs.size f cdv))->sp vs H Q E ->
   ∃t,xK (fO (lR P w) P w K mg base N qual (aH st) f cdv A outer s H E) (cJ st) t/\t { nx:=fun _ H'=>Q .non H',rt:=Q } (start N vs) H):bM P w K mg base (lR P w) (k+1) f fd ps sp:=by
 obtain⟨oc,od,kV,doc,pm,an,cdv,ct,osl,rfl,lk,hcd⟩:=F.ex
 exact Qh lk hcd S len fun A outer s H vs Q E K5 hr hsp=>hbody cdv A outer s H vs Q E K5 hr hsp
structure Lr (P:Program) (w:World) (K:PySem.W.Frag) (mg:Str->Option Value) (base:Heap) (k:Nat) (x:Str) (ps:List Str) (sp:Sp) where
 f:Addr
 fd:FuncData
 G:bM P w K mg base (lR P w) k f fd ps sp
 kp:PySem.W.keepIn K (.ref f)=true
 b:Binds K fd ps []
 m:mg x=some (.ref f)
def Lr.mono {j k:Nat} {x:Str} {ps:List Str} {sp:Sp} (c:Lr P w K mg base j x ps sp) (h:j<=k):Lr P w K mg base k x ps sp:={ c with G:=c.G.mono h }
def Lr.calm {k:Nat} {x:Str} {ps:List Str} {sp:Sp} (c:Lr P w K mg base k x ps sp):Ct P w K mg base k x ps (fun vs H Q _=>sp vs H Q E0):=⟨c.f,c.fd,⟨fun vs H Q E h=>c.G.len _ _ _ _ h,fun A outer s H args us vs Q E hr he hb hv h=>codeAny_mono (c.G.run A outer s H args us vs Q E0 hr he hb hv h) fun r s' z=>by
 cases r with
 | error e=>
  obtain⟨_,_,_,_,_,_,_,_,_,_,_,_,_,q⟩:=z
  exact q.elim
 | ok fl=>cases fl <;> exact z⟩,c.kp,c.b,c.m⟩
end
section
variable {prog:Program} {w:World} {A:Around} {E:Value->Shared->Prop} {s:Shared} {K:PySem.W.Frag} {x D:Addr} {ox:Obj} {od:Option Obj}
structure ExK (K:PySem.W.Frag) (D:Addr):Prop where
 ga:PySem.W.findIn K (.ref D) "__getattribute__" = some (some (.builtin "BaseException.__getattribute__"))
 gt:PySem.W.findIn K (.ref D) "__getattr__" = some none
 fo:PySem.W.findObj K D none "__class__" = some (.bind (.builtin "getset_descriptor.__get__") (.builtin "object.__class__"))
 sb:PySem.W.subIn K (.ref D) (.type "BaseException")=some true
 ob:PySem.W.mroIn K D (.type "object")=some true
end
section
variable {X:Cx}
end
noncomputable instance aan:DecidableEq PyData:=fun a b=>Classical.propDecidable (a=b)
mutual
def oY:PyData->Bool
 | .int _=>true
 | .tuple ds=>d9 ds
 | _=>false
def d9:List PyData->Bool
 | []=>true
 | d::ds=>oY d&&d9 ds
end
theorem vG:∀{ds:List PyData},d9 ds=true↔∀d∈ds,oY d=true
 | []=>by simp[d9]
 | d::ds=>by
  have ih:=vG (ds:=ds)
  simp only[d9,wW,ih,b8,forall_eq_or_imp]
mutual
theorem jb:∀d:PyData,oY d=true->d.canLay0=true/\d.hasDict=false/\qm d=true
 | .int _,_=>⟨rfl,rfl,rfl⟩
 | .tuple ds,h=>by
  obtain⟨h1,h2,h3⟩:=Ie ds (by simpa[oY] using h)
  exact⟨by simpa[PyData.canLay0] using h1,by simpa[PyData.hasDict] using h2,by simpa[qm] using h3⟩
 | .none,h=>nomatch h
 | .bool _,h=>nomatch h
 | .str _,h=>nomatch h
 | .list _,h=>nomatch h
 | .dict _,h=>nomatch h
theorem Ie:∀ds:List PyData,d9 ds=true->PyData.canLayAll0 ds=true/\PyData.hasDictAll ds=false/\bF ds=true
 | [],_=>⟨rfl,rfl,rfl⟩
 | d::ds,h=>by
  have h':oY d=true/\d9 ds=true:=by simpa[d9] using h
  obtain⟨h1,h2,h3⟩:=jb d h'.1
  obtain⟨g1,g2,g3⟩:=Ie ds h'.2
  exact⟨by simp[PyData.canLayAll0,h1,g1],by simp[PyData.hasDictAll,h2,g2],by simp[bF,h3,g3]⟩
end
mutual
theorem Aa:∀d e:PyData,oY d=true->oY e=true->(PyData.eqv d e=true↔d=e)
 | .int i,.int j,_,_=>by simp[PyData.eqv]
 | .int i,.tuple es,_,_=>by simp[PyData.eqv]
 | .tuple ds,.int j,_,_=>by simp[PyData.eqv]
 | .tuple ds,.tuple es,h,g=>by
  have:=Dq ds es (by simpa[oY] using h) (by simpa[oY] using g)
  simpa[PyData.eqv] using this
 | .none,_,h,_=>nomatch h
 | .bool _,_,h,_=>nomatch h
 | .str _,_,h,_=>nomatch h
 | .list _,_,h,_=>nomatch h
 | .dict _,_,h,_=>nomatch h
 | .int _,.none,_,h=>nomatch h
 | .int _,.bool _,_,h=>nomatch h
 | .int _,.str _,_,h=>nomatch h
 | .int _,.list _,_,h=>nomatch h
 | .int _,.dict _,_,h=>nomatch h
 | .tuple _,.none,_,h=>nomatch h
 | .tuple _,.bool _,_,h=>nomatch h
 | .tuple _,.str _,_,h=>nomatch h
 | .tuple _,.list _,_,h=>nomatch h
 | .tuple _,.dict _,_,h=>nomatch h
theorem Dq:∀ds es:List PyData,d9 ds=true->d9 es=true->(PyData.eqvAll ds es=true↔ds=es)
 | [],[],_,_=>by simp[PyData.eqvAll]
 | [],_::_,_,_=>by simp[PyData.eqvAll]
 | _::_,[],_,_=>by simp[PyData.eqvAll]
 | d::ds,e::es,h,g=>by
  have h':oY d=true/\d9 ds=true:=by simpa[d9] using h
  have g':oY e=true/\d9 es=true:=by simpa[d9] using g
  have h1:=Aa d e h'.1 g'.1
  have h2:=Dq ds es h'.2 g'.2
  simp[PyData.eqvAll,h1,h2]
end
theorem R5 {d e:PyData} (h:oY d=true) (g:oY e=true):PyData.eqv d e=decide (d=e):=by
 by_cases z:d=e
 ·rw[iC z]; exact(Aa d e h g).mpr z
 ·rw[fH z]
  cases q:PyData.eqv d e with
  | false=>rfl
  | true=>exact absurd ((Aa d e h g).mp q) z
mutual
def bC:PyData->Int
 | .int i=>hashInt i
 | .tuple ds=>reduceHash (Builtin.Tuple.tupleHashOf (gH ds))
 | _=>0
def gH:List PyData->List Int
 | []=>[]
 | d::ds=>bC d::gH ds
end
mutual
def Jd:PyData->Nat
 | .tuple ds=>jE ds+1
 | _=>1
def jE:List PyData->Nat
 | []=>0
 | d::ds=>Jd d+jE ds
end
theorem vQ:∀a b:List PyData,gH (a++b)=gH a++gH b
 | [],_=>rfl
 | d::a,b=>by rw[yz,gH,gH,vQ a b]; rfl
theorem vV:∀a b:List PyData,jE (a++b)=jE a+jE b
 | [],_=>by rw[Fq,jE,sy]
 | d::a,b=>by rw[yz,jE,jE,vV a b,B_]
theorem j8:∀{ds:List PyData} {d:PyData},d∈ds->d.depth<=PyData.depthAll ds
 | x::ds,d,h=>by
  show d.depth<=max x.depth (PyData.depthAll ds)
  rcases b8.mp h with rfl | h
  ·omega
  ·have:=j8 h
   omega
def Bh (prog:Program) (w:World) (d:PyData):Prop:=∀(A:Around) (E:Value->Shared->Prop) (s:Shared) (v:Value) (as:List Addr) (Q:Int->Shared->Prop),Reads s.heap v d as->A.units+d.depth<cLine ->
 Q (bC d) { s with toks:=s.toks+Jd d }->wpAny (model prog w) A (PySem.pyHash v) Q E s
theorem PQ {prog:Program} {w:World} {ds:List PyData} (ih:∀d∈ds,Bh prog w d):Bh prog w (.tuple ds):=by
 intro A E s v as Q r hu h
 cases r with
 | @tuple a o items n _ _ ho hc hd hi=>
 have hT:s.TypeIs (.ref a) "tuple" := ⟨o,ho,hc⟩
 have aeO:A.units+(PyData.depthAll ds+1)<cLine:=hu
 have hu0:A.units<cLine:=by omega
 unfold pyHash
 first | unfold pyHashByItsType | skip
 first | refine aN (wpAny_cRoomFor_or (.inr hu0) ?_) | skip
 refine aN (yx hT F.slot_tuple_hash.lookup ?_)
 show wpAny _ _ (if(some (Value.builtin "tuple.__hash__")==some Value.none)=true then _ else _) Q E s
 rw[aK (by rw[beq_builtin_none]; exact mO)]
 refine aN (yx hT F.slot_tuple_hash.lookup ?_)
 show wpAny _ _ (callSpecialIfBoundUnlessNone? (.ref a) "__hash__" _ >>= _) Q E s
 refine aN (wpAny_callSpecialIfBoundUnlessNone?_slot hT F.slot_tuple_hash (uT F.slot_tuple_hash hT F.entry_tuple_hash ?_ (F.args_tuple_hash_1 _)))
 show wpAny _ _ (Builtin.Tuple.tupleItemsOf (.ref a) >>= _) _ _ s
 refine aN (wpAny_tupleItemsOf ho hd ?_)
 refine aN ?_
 rw[<- Hx]
 refine CQ _
  (fun rest (b:Array Int) s'=>∃done left bs,ds=done++left/\ReadsAll s.heap rest left bs/\b.toList=gH done/\s'={ s with toks:=s.toks+jE done })
  _ ?_ ?_ _ _ ⟨[],ds,_,rfl,hi,rfl,rfl⟩
 ·rintro x rest b s' ⟨done,left,bs,e,hl,hb,rfl⟩
  cases hl with
  | @cons _ _ k ks' as1 Xv h1 hl'=>
   have hk:k∈ds:=by rw[e]; simp
   refine aN (ih k hk _ _ _ _ _ _ h1 ?_ ?_)
   ·have:=j8 hk
    show A.units+1+k.depth<cLine
    omega
   ·exact bK ⟨done++[k],ks',_,by rw[e]; simp,hl',by rw[vQ]; simp[hb,gH],by rw[vV]; simp[jE,B_]⟩
 ·rintro b s' ⟨done,left,bs,e,hl,hb,rfl⟩
  cases hl
  rw[mL] at e
  subst e
  show wpAny _ _ (retInt (Builtin.Tuple.tupleHashOf b.toList)) _ _ _
  rw[hb]
  refine wpAny_ret_mkInt ?_
  show wpAny _ _ (if(decide (-(2:Int) ^ 63<=Builtin.Tuple.tupleHashOf (gH ds))&&decide (Builtin.Tuple.tupleHashOf (gH ds)<2 ^ 63))=true then _ else _) Q E _
  unfold bC reduceHash Jd at h
  by_cases hr:(decide (-(2:Int) ^ 63<=Builtin.Tuple.tupleHashOf (gH ds))&&decide (Builtin.Tuple.tupleHashOf (gH ds)<2 ^ 63))=true
  ·rw[aM hr]
   rw[aM hr] at h
   exact bK (by simpa[B_] using h)
  ·rw[aK hr]
   rw[aK hr] at h
   exact aN (uQ (bK (by simpa[B_] using h)))
mutual
theorem yK {prog:Program} {w:World}:∀d:PyData,oY d=true->Bh prog w d
 | .int i,_=>by
  intro A E s v as Q r hu h
  cases r
  exact wpAny_pyHash_int h
 | .tuple ds,h=>PQ (vP ds (by simpa[oY] using h))
 | .none,h=>nomatch h
 | .bool _,h=>nomatch h
 | .str _,h=>nomatch h
 | .list _,h=>nomatch h
 | .dict _,h=>nomatch h
theorem vP {prog:Program} {w:World}:∀ds:List PyData,d9 ds=true->∀d∈ds,Bh prog w d
 | [],_,d,hd=>by cases hd
 | x::ds,h,d,hd=>by
  have h':oY x=true/\d9 ds=true:=by simpa[d9] using h
  rcases b8.mp hd with e | e
  ·rw[e]; exact yK x h'.1
  ·exact vP ds h'.2 d e
end
def uc (prog:Program) (w:World) (d:PyData):Prop:=∀(n:Nat) (A:Around) (E:Value->Shared->Prop) (s:Shared) (v:Value) (as:List Addr) (Q:Bool->Shared->Prop),Reads s.heap v d as->d.depth<=n->Q true s ->
 wpAny (model prog w) A (eqIsQuiet n v) Q E s
theorem J7 {prog:Program} {w:World} {ds:List PyData} (ih:∀d∈ds,uc prog w d):uc prog w (.tuple ds):=by
 intro n A E s v as Q r hn h
 have hn:PyData.depthAll ds+1<=n:=hn
 obtain⟨m,rfl⟩:∃m,n=m+1:=⟨n-1,by omega⟩
 cases r with
 | @tuple a o items nn _ _ ho hc hd hi=>
 have hT:s.TypeIs (.ref a) "tuple" := ⟨o,ho,hc⟩
 unfold eqIsQuiet
 refine aN (yx hT F.slot_tuple_eq.lookup ?_)
 show wpAny _ _ (isInstance (.ref a) (.type "tuple") >>= _) _ _ s
 refine aN (wpAny_isInstance hT isSubtype_tuple_tuple ?_)
 simp only[zM,jn,if_false]
 refine aN (oU ho hd ?_)
 refine aN ?_
 show wpAny _ _ (forIn items _ _) _ _ s
 rw[<- Hx]
 refine CQ _ (fun rest r s'=>r.1=none/\s'=s/\∃left bs,(∀d∈left,d∈ds)/\ReadsAll s.heap rest left bs) _ ?_ ?_ _ _ ⟨rfl,rfl,ds,_,fun d h=>h,hi⟩
 ·rintro v rest r s' ⟨hr,rfl,left,bs,hall,hl⟩
  cases hl with
  | @cons _ _ k ks' as1 Xv h1 hl'=>
  have hk:=hall k jo
  have:=j8 hk
  refine aN (ih k hk m _ _ _ _ _ _ h1 (by omega) ?_)
  simp only[zM,jn,if_false]
  exact bK ⟨rfl,rfl,ks',Xv,fun d h=>hall d (il _ h),hl'⟩
 ·rintro⟨r1,r2⟩ s' ⟨hr,rfl,_⟩
  simp only at hr
  subst hr
  exact bK h
mutual
theorem uY {prog:Program} {w:World}:∀d:PyData,oY d=true->uc prog w d
 | .int i,_=>by
  intro n A E s v as Q r hu h
  cases r
  rw[eqIsQuiet_byValue _ rfl]
  exact bK h
 | .tuple ds,h=>J7 (sG ds (by simpa[oY] using h))
 | .none,h=>nomatch h
 | .bool _,h=>nomatch h
 | .str _,h=>nomatch h
 | .list _,h=>nomatch h
 | .dict _,h=>nomatch h
theorem sG {prog:Program} {w:World}:∀ds:List PyData,d9 ds=true->∀d∈ds,uc prog w d
 | [],_,d,hd=>by cases hd
 | x::ds,h,d,hd=>by
  have h':oY x=true/\d9 ds=true:=by simpa[d9] using h
  rcases b8.mp hd with e | e
  ·rw[e]; exact uY x h'.1
  ·exact sG ds h'.2 d e
end
mutual
theorem uP {h h':Heap} (k:∀b o,h.get? b=some o->o.cls=.type "tuple" -> (∃vs n,o.data=.seq vs n)->h'.get? b=some o):∀(d:PyData) (v:Value) (as:List Addr),oY d=true->Reads h v d as->Reads h' v d as
 | .int i,_,_,_,r=>by cases r; exact .int _ _
 | .tuple ds,_,_,g,r=>by
  cases r with
  | tuple ho hc hd hi=>exact .tuple (k _ _ ho hc ⟨_,_,hd⟩) hc hd (su k ds _ _ (by simpa[oY] using g) hi)
 | .none,_,_,h,_=>nomatch h
 | .bool _,_,_,h,_=>nomatch h
 | .str _,_,_,h,_=>nomatch h
 | .list _,_,_,h,_=>nomatch h
 | .dict _,_,_,h,_=>nomatch h
theorem su {h h':Heap} (k:∀b o,h.get? b=some o->o.cls=.type "tuple" -> (∃vs n,o.data=.seq vs n)->h'.get? b=some o):∀(ds:List PyData) (vs:List Value) (as:List Addr),d9 ds=true->ReadsAll h vs ds as->ReadsAll h' vs ds as
 | [],_,_,_,r=>by cases r; exact .nil
 | d::ds,_,_,g,r=>by
  have g':oY d=true/\d9 ds=true:=by simpa[d9] using g
  cases r with
  | cons h1 h2=>exact .cons (uP k d _ _ g'.1 h1) (su k ds _ _ g'.2 h2)
end
noncomputable def bu (prog:Program) (w:World):HeapKind prog w PyData where
 is:=fun h d a=>oY d=true/\d.depth<=8/\∃as,Reads h (.ref a) d as
 hash:=bC
 draws:=Jd
 room:=fun A=>A.units+60<cLine
 inj:=fun⟨g,_,_,r⟩ ⟨_,_,_,r'⟩=>SeqAt.Reads.unique _ _ _ _ _ (jb _ g).1 r r'
 keeps:=fun {h h' k a d o es ep} ⟨g,dp,as,r⟩ ho hd hs=>⟨g,dp,as,uP (fun b ob hb hc ⟨vs,n,hq⟩=>by
  have hne:b≠d:=by
   rintro rfl
   obtain rfl:ob=o:=Option.some.inj (hb.symm.trans ho)
   rw[hd] at hq; exact nomatch hq
  exact(hs.2 b hne).trans hb) _ _ _ g r⟩
 pyHash:=fun hu ⟨g,dp,as,r⟩ h=>yK _ g _ _ _ _ _ _ r (by omega) h
 eqBool:=fun {A E s x y a b Q} hu ⟨g,dp,as,r⟩ ⟨g',dp',as',r'⟩ h=>by
  have:=SeqAt.eqAt_reads x y A s _ _ _ _ r r' (jb _ g).1 (jb _ g').1 (by have:=Nat.min_le_left x.depth y.depth; omega)
  rw[R5 g g'] at this
  exact this prog w E Q h
 quiet:=fun⟨g,dp,as,r⟩ h=>uY _ g 8 _ _ _ _ _ _ r dp h
mutual
theorem At.tupS {H H':Hp} (k:∀b xs,H b=some (.tup xs)->H' b=some (.tup xs)):∀(d:PyData) (v:V),qm d=true->At H d v->At H' d v
 | .none,_,_,h=>by unfold At at h ⊢; exact h
 | .bool _,_,_,h=>by unfold At at h ⊢; exact h
 | .int _,_,_,h=>by unfold At at h ⊢; exact h
 | .str _,_,_,h=>by unfold At at h ⊢; exact h
 | .tuple ds,v,n,h=>by
  unfold At at h ⊢
  obtain⟨a,ys,e,h1,h2⟩:=h
  exact⟨a,ys,e,k _ _ h1,aj.tupS k ds ys (by simpa[qm] using n) h2⟩
 | .list _,_,n,_=>by simp[qm] at n
 | .dict _,_,n,_=>by simp[qm] at n
theorem aj.tupS {H H':Hp} (k:∀b xs,H b=some (.tup xs)->H' b=some (.tup xs)):∀(ds:List PyData) (ys:List V),bF ds=true->aj H ds ys->aj H' ds ys
 | [],_,_,h=>by unfold aj at h ⊢; exact h
 | d::ds,ys,n,h=>by
  unfold aj at h ⊢
  obtain⟨x,r,e,h1,h2⟩:=h
  have n':qm d=true/\bF ds=true:=by simpa[bF] using n
  exact⟨x,r,e,At.tupS k d x n'.1 h1,aj.tupS k ds r n'.2 h2⟩
end
structure oH (d:PyData):Prop where
 t:∃ds,d=.tuple ds
 k:oY d=true
 dp:d.depth<=8
def ndE (x:PyData×Addr×Value):DictEntry:=⟨bC x.1,.ref x.2.1,x.2.2⟩
def NdP (a:Addr) (xs:List (PyData×Addr×Value)) (h:Heap):Prop:=∃o es ep,h.get? a=some o/\o.ExactDict/\o.data=.dict es ep/\es.toList=xs.map ndE/\(xs.map (·.1)).Nodup/\xs.length<=sizeLine/\(a==sysModules)=false
def LC (a:Addr) (xs:List (PyData×Addr×Value)):HO:=.ext (NdP a xs)
def iy (H:Hp) (a:Addr) (kvs:List (PyData×V)):Prop:=∃xs,H a=some (LC a xs)/\Paired (fun(p:PyData×V) (q:PyData×Addr×Value)=>p.1=q.1/\oH p.1/\At H p.1 (.ref q.2.1)/\RelV p.2 q.2.2) kvs xs
theorem iy.keep {H H':Hp} {a:Addr} {kvs:List (PyData×V)} (n:iy H a kvs) (ha:H' a=H a) (k:∀b xs,H b=some (.tup xs)->H' b=some (.tup xs)):iy H' a kvs:=by
 obtain⟨xs,e,r⟩:=n
 exact⟨xs,ha.trans e,Paired.Sd r fun _ _ z=>⟨z.1,z.2.1,At.tupS k _ _ (jb _ z.2.1.k).2.2 z.2.2.1,z.2.2.2⟩⟩
theorem iy.same {H H':Hp} {a:Addr} {kvs:List (PyData×V)} (n:iy H a kvs) (s:aC H H'):iy H' a kvs:=by
 obtain⟨xs,e,r⟩:=id n
 exact n.keep ((s _ _ e).trans e.symm) fun b xs h=>s _ _ h
theorem iy.ext {H:Hp} {a:Addr} {kvs:List (PyData×V)} (n:iy H a kvs):∃φ,H a=some (.ext φ):=by
 obtain⟨xs,e,_⟩:=n
 exact⟨_,e⟩
abbrev KN (H:Hp):List (PyData×V)->List (PyData×Addr×Value)->Prop:=Paired fun p q=>p.1=q.1/\oH p.1/\At H p.1 (.ref q.2.1)/\RelV p.2 q.2.2
theorem KN.val {H:Hp} {kvs:List (PyData×V)} {xs:List (PyData×Addr×Value)} (r:KN H kvs xs) (k:PyData):QG (gf kvs k) ((atKey xs k).map (·.2)):=by
 induction r with
 | nil=>exact True.intro
 | @cons p q ps qs h t ih=>
  obtain⟨h1,_,_,h2⟩:=h
  by_cases e:p.1=k
  ·have e':q.1=k:=h1.symm.trans e
   have b:atKey (q::qs) k=some q.2:=by simp[atKey,List.find?_cons,e']
   rw[eN e,b]; exact h2
  ·have e':¬q.1=k:=fun z=>e (h1.trans z)
   have b:atKey (q::qs) k=atKey qs k:=by simp[atKey,List.find?_cons,e']
   rw[eO e,b]; exact ih
theorem KN.repl {H:Hp} {kvs:List (PyData×V)} {xs:List (PyData×Addr×Value)} (r:KN H kvs xs) (k:PyData) {y:V} {u:Value} (ry:RelV y u) :
  KN H (kvs.map fun kv=>if kv.1=k then(kv.1,y) else kv) (xs.map (putAt k u)):=by
 induction r with
 | nil=>exact .nil
 | @cons p q ps qs h t ih=>
  rw[kW,kW]
  refine .cons ?_ ih
  obtain⟨h1,h2,h4,h3⟩:=h
  unfold putAt
  by_cases e:p.1=k
  ·rw[aM e,aM (h1.symm.trans e)]; exact⟨h1,h2,h4,ry⟩
  ·rw[aK e,aK (fun z=>e (h1.trans z))]; exact⟨h1,h2,h4,h3⟩
theorem KN.put {H:Hp} {kvs:List (PyData×V)} {xs:List (PyData×Addr×Value)} (r:KN H kvs xs) {k:PyData} {b:Addr} {y:V} {u:Value} (hk:oH k) (hb:At H k (.ref b)) (ry:RelV y u) :
  KN H (putK kvs k y) (storedH xs k b u):=by
 have e:(kvs.any fun kv=>decide (kv.1=k))=(atKey xs k).isSome:=by
  rw[pO,(r.val k).rF,Option.isSome_map]
 unfold putK storedH
 rw[e]
 by_cases q:(atKey xs k).isSome=true
 ·rw[aM q,aM q]; exact r.repl k ry
 ·rw[aK q,aK q]; exact Paired.snoc r ⟨rfl,hk,hb,ry⟩
section
variable {X:Cx} {pins:List (Addr×Obj)} {σ:St} {H:Hp} {s:Shared} {a:Addr} {kvs:List (PyData×V)}
theorem qp (ok:lK X.prog X.w H s.heap) {d:PyData} {b:Addr} (hk:oH d) (hd:At H d (.ref b)):(bu X.prog X.w).is s.heap d b:=by
 obtain⟨as,r⟩:=gZ ok d (.ref b) (.ref b) hd rfl (jb _ hk.k).2.1
 exact⟨hk.k,hk.dp,as,r⟩
theorem Wi (ok:lK X.prog X.w H s.heap):∀{kvs:List (PyData×V)} {xs:List (PyData×Addr×Value)},KN H kvs xs->∀x∈xs,(bu X.prog X.w).is s.heap x.1 x.2.1:=by
 intro kvs xs r
 induction r with
 | nil=>intro x hx; exact nomatch hx
 | @cons p q ps qs h t ih=>
  intro x hx
  rcases b8.mp hx with e | hx
  ·subst e
   obtain⟨h1,h2,h3,_⟩:=h
   rw[h1] at h2 h3
   exact qp ok h2 h3
  ·exact ih x hx
theorem Ib (I:Inv X pins σ H s) (n:iy H a kvs):∃xs,H a=some (LC a xs)/\KN H kvs xs/\s.heap.DictOfH (bu X.prog X.w) a xs/\xs.length<=sizeLine/\(a==sysModules)=false:=by
 obtain⟨xs,e,r⟩:=n
 obtain⟨⟨o,es,ep,h1,h2,h3,h4,h5,h6,h7⟩,_,_⟩:=(show cL X.prog X.w H s.heap a (LC a xs) from I.hok a _ e)
 exact⟨xs,e,r,⟨o,es,ep,h1,h2,h3,h4,Wi I.hok r,h5⟩,h6,h7⟩
theorem U5 {P:Program} {w:World} {H:Hp} {h:Heap} {xs:List (PyData×Addr×Value)} (n:NdP a xs h):cL P w H h a (LC a xs):=by
 obtain⟨o,es,ep,h1,r⟩:=n
 refine⟨⟨o,es,ep,h1,r⟩,⟨o,h1⟩,fun h1' h2' ⟨o',es',ep',g1,g⟩ k=>⟨o',es',ep',k _ g1,g⟩⟩
theorem nP {A:Around} (hu:A.units+64<cLine):(bu X.prog X.w).room A.in1:=by
 show A.units+1+60<cLine
 omega
def jj (H:Hp) (d:PyData) (y:V):Prop:=oH d/\At H d y
theorem jj.ref {d:PyData} {y:V} {u:Value} (k:jj H d y) (r:RelV y u):∃b,y=.ref b/\u=.ref b:=by
 obtain⟨⟨⟨ds,rfl⟩,_,_⟩,h⟩:=k
 unfold At at h
 obtain⟨b,_,rfl,_,_⟩:=h
 exact⟨b,rfl,r⟩
theorem Zc {A:Around} {E:Value->Shared->Prop} {Q:Value->Shared->Prop} {d:PyData} {y:V} {u:Value} (hu:A.units+64<cLine) (I:Inv X pins σ H s) (n:iy H a kvs) (ky:jj H d y) (ry:RelV y u) (h:∀s',Inv X pins σ H s'->Q (.bool (gf kvs d).isSome) s') :
  wpAny (model X.prog X.w) A (compareOp .In u (.ref a)) Q E s:=by
 obtain⟨b,rfl,rfl⟩:=ky.ref ry
 obtain⟨xs,e,r,dd,z,hd⟩:=Ib I n
 refine wpAny_in_heap (nP hu) (qp I.hok ky.1 ky.2) hd dd ?_
 have q:=(KN.val r d).rF
 rw[Option.isSome_map] at q
 rw[<- q]
 exact h _ (I.tok _)
theorem Ow {A:Around} {E:Value->Shared->Prop} {Q:Value->Shared->Prop} {d:PyData} {y:V} {u:Value} (hu:A.units+64<cLine) (I:Inv X pins σ H s) (n:iy H a kvs) (ky:jj H d y) (ry:RelV y u) (h:∀s',Inv X pins σ H s'->Q (.bool (!(gf kvs d).isSome)) s') :
  wpAny (model X.prog X.w) A (compareOp .NotIn u (.ref a)) Q E s:=by
 obtain⟨b,rfl,rfl⟩:=ky.ref ry
 obtain⟨xs,e,r,dd,z,hd⟩:=Ib I n
 refine wpAny_notIn_heap (nP hu) (qp I.hok ky.1 ky.2) hd dd ?_
 have q:=(KN.val r d).rF
 rw[Option.isSome_map] at q
 rw[<- q]
 exact h _ (I.tok _)
theorem Ov {h':Heap} {t':Nat} {xs ys:List (PyData×Addr×Value)} {kvs':List (PyData×V)} (I:Inv X pins σ H s) (e:H a=some (LC a xs)) (hs:Heap.SameBut a s.heap h') (dd:h'.DictOfH (bu X.prog X.w) a ys) (z:ys.length<=sizeLine) (hd:(a==sysModules)=false) (r:KN H kvs' ys) :
  Inv X pins σ (upd H a (LC a ys)) { s with heap:=h',toks:=t' }/\iy (upd H a (LC a ys)) a kvs':=by
 obtain⟨o,es,ep,h1,h2,h3,h4,h5,h6⟩:=dd
 refine⟨I.write (x:=a) (e:=a) (by rw[e]; exact True.intro) (.inl rfl) (fun b q hb z=>(hs.2 b hb).trans z) ⟨o,h1⟩ (U5 ⟨o,es,ep,h1,h2,h3,h4,h6,z,hd⟩),ys,az,?_⟩
 refine Paired.Sd r fun _ _ z=>⟨z.1,z.2.1,At.tupS (fun b xs hb=>?_) _ _ (jb _ z.2.1.k).2.2 z.2.2.1,z.2.2.2⟩
 have nb:b≠a:=fun z=>by rw[z,e] at hb; cases hb
 rw[aL nb]; exact hb
theorem Bv (xs:List (PyData×Addr×Value)) (k:PyData) (b:Addr) (u:Value):(storedH xs k b u).length<=xs.length+1:=by
 unfold storedH
 split
 ·rw[bR]; omega
 ·rw[gD,nU,List.length_nil]; exact cW _
theorem Ku (I:Inv X pins σ H s) (n:iy H a kvs):s.TypeIs (.ref a) "dict" := by
 obtain⟨xs,e,rel,dd,z,hd⟩:=Ib I n
 exact dd.typeIs
end
section
variable {X:Cx}
theorem V_ (hu:X.A.units+64<cLine):oG X (compareOp .In) (fun x y H Q=>∃a kvs d,y=.ref a/\iy H a kvs/\jj H d x/\Q (.bl (gf kvs d).isSome) H):=by
 refine .mk ?_
 intro pins s σ H x y v u Q I rx ry h
 obtain⟨a,kvs,d,rfl,n,k,q⟩:=h
 cases ry
 exact Zc hu I n k rx fun s' I'=>⟨.bl _,H,I',rfl,q⟩
theorem Kd (hu:X.A.units+64<cLine):oG X (compareOp .NotIn) (fun x y H Q=>∃a kvs d,y=.ref a/\iy H a kvs/\jj H d x/\Q (.bl (!(gf kvs d).isSome)) H):=by
 refine .mk ?_
 intro pins s σ H x y v u Q I rx ry h
 obtain⟨a,kvs,d,rfl,n,k,q⟩:=h
 cases ry
 exact Ow hu I n k rx fun s' I'=>⟨.bl _,H,I',rfl,q⟩
theorem Ox {h:Heap} (hb:sysModules<h.objs.size):NdP h.objs.size [] (h.push { cls:=.type "dict",data:=.dict #[] }):=
 ⟨_,#[],0,dX _ rfl,⟨rfl,rfl,rfl⟩,rfl,rfl,List.nodup_nil,e_ _,beq_eq_false_iff_ne.mpr (Ne.symm (gk hb))⟩
end
def gR:Nat->Nat->Nat
 | 0,x=>x
 | r+1,x=>gR r (5*x+1)
theorem Gk:∀(r s x:Nat),gR (r+s) x=gR s (gR r x)
 | 0,s,x=>by rw[sy]; rfl
 | r+1,s,x=>by rw[show r+1+s=(r+s)+1 by omega]; exact Gk r s (5*x+1)
theorem Qe:∀k:Nat,∃a b:Nat,∀x,gR (2 ^ k) x=(1+4*2 ^ k*a)*x+2 ^ k*(1+2*b)
 | 0=>⟨1,0,fun x=>by show 5*x+1=(1+4*1*1)*x+1*(1+2*0); omega⟩
 | k+1=>by
  obtain⟨a,b,h⟩:=Qe k
  refine⟨a+2*2 ^ k*a*a,b+2 ^ k*a+2*b*2 ^ k*a,fun x=>?_⟩
  rw[show 2 ^ (k+1)=2 ^ k+2 ^ k by rw[CG]; omega,Gk,h,h]
  generalize 2 ^ k=P
  grind
theorem S_ (k x:Nat):gR (2 ^ k) x % (2 ^ k*2)=(x+2 ^ k) % (2 ^ k*2):=by
 obtain⟨a,b,h⟩:=Qe k
 rw[h]
 generalize 2 ^ k=P
 have e:(1+4*P*a)*x+P*(1+2*b)=(x+P)+P*2*(2*a*x+b):=by grind
 rw[e,Nat.add_mul_mod_self_left]
theorem Ky {P z y:Nat} (h:z % P=y % P):z % (P*2)=y % (P*2)\/(z+P) % (P*2)=y % (P*2):=by
 rcases Nat.eq_zero_or_pos P with e | hp
 ·subst e
  left
  simpa using h
 ·rw[Nat.mod_mul,Nat.mod_mul (x:=y),Nat.mod_mul (x:=z+P),h,Nat.add_mod_right,h,Nat.add_div_right _ hp]
  rcases Nat.mod_two_eq_zero_or_one (z / P) with a | a <;> rcases Nat.mod_two_eq_zero_or_one (y / P) with b | b
  ·left; rw[a,b]
  ·right; rw[b,show(z / P).succ % 2=1 by omega]
  ·right; rw[b,show(z / P).succ % 2=0 by omega]
  ·left; rw[a,b]
theorem Ak:∀(k x y:Nat),∃r,r<2 ^ k/\gR r x % 2 ^ k=y % 2 ^ k
 | 0,x,y=>⟨0,by decide,by rw[Nat.pow_zero,Nat.mod_one,Nat.mod_one]⟩
 | k+1,x,y=>by
  obtain⟨r,hr,e⟩:=Ak k x y
  have hp:0<2 ^ k:=Nat.pow_pos (by decide)
  rw[CG]
  rcases Ky e with z | z
  ·exact⟨r,by omega,z⟩
  ·exact⟨r+2 ^ k,by omega,by rw[Gk,S_]; exact z⟩
open SetTable (Probe runEnd leap turns bits)
def yZ (m:Nat) (p:Probe):Probe:=
 if p.more>0 then { p with j:=p.j+1,more:=p.more-1 } else
 { p with j:=(leap m p.i p.perturb).1,more:=runEnd m (leap m p.i p.perturb).1-(leap m p.i p.perturb).1,i:=(leap m p.i p.perturb).1,perturb:=(leap m p.i p.perturb).2 }
theorem W6 (t:SetTable) (p:Probe):t.advance p=yZ t.mask p:=rfl
def fQ (m:Nat):Nat->Probe->Probe
 | 0,p=>p
 | n+1,p=>fQ m n (yZ m p)
theorem lB (m:Nat):∀(a b:Nat) (p:Probe),fQ m (a+b) p=fQ m b (fQ m a p)
 | 0,b,p=>by rw[sy]; rfl
 | a+1,b,p=>by rw[show a+1+b=(a+b)+1 by omega]; exact lB m a b (yZ m p)
theorem Pk (m n:Nat) (p:Probe):fQ m (n+1) p=yZ m (fQ m n p):=lB m n 1 p
structure WP (m:Nat) (p:Probe):Prop where
 i:p.i<=m
 j:p.j+p.more=runEnd m p.i
 q:p.perturb<2 ^ 64
 d:p.dummy=none
 ij:p.i<=p.j
theorem gC {m i:Nat} (h:i<=m):runEnd m i<=m/\i<=runEnd m i/\runEnd m i<=i+9:=by unfold runEnd; split <;> omega
theorem qt (m i q:Nat):(leap m i q).1<=m:=by
 show(i*5+1+q / 32) % (m+1)<=m
 exact Nat.le_of_lt_succ (Nat.mod_lt _ (Nat.succ_pos m))
theorem WP.yZ {m:Nat} {p:Probe} (h:WP m p):WP m (yZ m p):=by
 unfold L2.yZ
 have hj:=h.j
 by_cases c:p.more>0
 ·rw[aM c]
  exact⟨h.i,by show p.j+1+(p.more-1)=runEnd m p.i; omega,h.q,h.d,by show p.i<=p.j+1; have:=h.ij; omega⟩
 ·rw[aK c]
  have l:=qt m p.i p.perturb
  have r:=gC l
  refine⟨l,?_,?_,h.d,cW _⟩
  ·show(leap m p.i p.perturb).1+(runEnd m (leap m p.i p.perturb).1-(leap m p.i p.perturb).1)=runEnd m (leap m p.i p.perturb).1
   omega
  ·show p.perturb / 32<2 ^ 64
   have:=h.q
   omega
theorem WP.fQ {m:Nat}:∀(n:Nat) {p:Probe},WP m p->WP m (fQ m n p)
 | 0,_,h=>h
 | n+1,_,h=>WP.fQ n h.yZ
theorem WP.le {m:Nat} {p:Probe} (h:WP m p):p.j<=m:=by
 have:=h.j
 have:=(gC h.i).1
 omega
theorem WP.more {m:Nat} {p:Probe} (h:WP m p):p.more<=9:=by
 have hj:=h.ij
 have:=h.j
 have:=(gC h.i).2.2
 omega
theorem ug (t:SetTable) (h:Int):WP t.mask (t.probeStart h):=by
 have l:bits h % (t.mask+1)<=t.mask:=Nat.le_of_lt_succ (Nat.mod_lt _ (Nat.succ_pos t.mask))
 have r:=gC l
 refine⟨l,?_,?_,rfl,cW _⟩
 ·show bits h % (t.mask+1)+(runEnd t.mask (bits h % (t.mask+1))-bits h % (t.mask+1))=runEnd t.mask (bits h % (t.mask+1))
  omega
 ·show bits h<2 ^ 64
  unfold bits
  have:=Ci h (show(0:Int)<2 ^ 64 by decide)
  have:=Cd h (show(2:Int) ^ 64≠0 by decide)
  omega
def jmp (m i q:Nat):Probe:={ j:=i,more:=runEnd m i-i,i:=i,perturb:=q,dummy:=none }
theorem qy {m:Nat}:∀(n:Nat) {p:Probe},WP m p->p.more=n->fQ m (n+1) p=jmp m (leap m p.i p.perturb).1 (leap m p.i p.perturb).2
 | 0,p,h,e=>by
  show yZ m p=_
  unfold yZ
  rw[aK (by omega),h.d]; rfl
 | n+1,p,h,e=>by
  show fQ m (n+1) (yZ m p)=_
  have e2:yZ m p={ p with j:=p.j+1,more:=p.more-1 }:=by unfold yZ; rw[aM (by omega)]
  have:=qy n h.yZ (by rw[e2]; show p.more-1=n; omega)
  rw[this,e2]
def sH (m:Nat):Nat->Nat->Nat->Nat×Nat
 | 0,i,q=>(i,q)
 | n+1,i,q=>sH m n (leap m i q).1 (leap m i q).2
theorem Ai {m i q:Nat} (hi:i<=m) (hq:q<2 ^ 64):WP m (jmp m i q):=by
 have r:=gC hi
 exact⟨hi,by show i+(runEnd m i-i)=runEnd m i; omega,hq,rfl,cW _⟩
theorem Pj {m i q:Nat} (hi:i<=m):(jmp m i q).more<=9:=by
 have:=gC hi
 show runEnd m i-i<=9
 omega
theorem Iu {m:Nat}:∀(n i q:Nat),i<=m->q<2 ^ 64->∃k,k<=10*n/\fQ m k (jmp m i q)=jmp m (sH m n i q).1 (sH m n i q).2
 | 0,i,q,_,_=>⟨0,by omega,rfl⟩
 | n+1,i,q,hi,hq=>by
  have w:=Ai hi hq
  have e:=qy _ w rfl
  have hm:=Pj (q:=q) hi
  have hq':(leap m i q).2<2 ^ 64:=by show q / 32<2 ^ 64; omega
  obtain⟨k,hk,ek⟩:=Iu n (leap m i q).1 (leap m i q).2 (qt m i q) hq'
  refine⟨(jmp m i q).more+1+k,by omega,?_⟩
  rw[lB,e]
  exact ek
theorem Ae (m:Nat):∀(a b i q:Nat),sH m (a+b) i q=sH m b (sH m a i q).1 (sH m a i q).2
 | 0,b,i,q=>by rw[sy]; rfl
 | a+1,b,i,q=>by rw[show a+1+b=(a+b)+1 by omega]; exact Ae m a b _ _
theorem O4 (m:Nat):∀(n i q:Nat),(sH m n i q).2=q / 32 ^ n
 | 0,i,q=>by show q=q / 1; omega
 | n+1,i,q=>by
  have:=O4 m n (leap m i q).1 (leap m i q).2
  show(sH m n (leap m i q).1 (leap m i q).2).2=_
  rw[this]
  show q / 32 / 32 ^ n=q / 32 ^ (n+1)
  rw[Nat.div_div_eq_div_mul,CG,Nat.mul_comm]
theorem vI (m:Nat):∀(n i:Nat),(sH m n i 0).1 % (m+1)=gR n i % (m+1)
 | 0,i=>rfl
 | n+1,i=>by
  have h:=vI m n (leap m i 0).1
  have e2:(leap m i 0).2=0:=rfl
  show(sH m n (leap m i 0).1 (leap m i 0).2).1 % (m+1)=gR n (5*i+1) % (m+1)
  rw[e2,h]
  have e1:(leap m i 0).1 % (m+1)=(5*i+1) % (m+1):=by
   show(i*5+1+0 / 32) % (m+1) % (m+1)=_
   rw[Nat.mod_mod,show i*5+1+0 / 32=5*i+1 by omega]
  exact Qd n e1
where
 Qd {N:Nat}:∀(n:Nat) {x y:Nat},x % N=y % N->gR n x % N=gR n y % N
  | 0,_,_,h=>h
  | n+1,x,y,h=>Qd n (by rw[Nat.add_mod,Nat.mul_mod,h,<- Nat.mul_mod,<- Nat.add_mod])
theorem vJ (m:Nat):∀(n i q:Nat),i<=m->(sH m n i q).1<=m
 | 0,_,_,h=>h
 | n+1,i,q,_=>vJ m n _ _ (qt m i q)
theorem Qq {k m:Nat} (hm:m+1=2 ^ k) {p:Probe} (w:WP m p) {y:Nat} (hy:y<=m):∃n,n<10*(m+15)/\(fQ m n p).j=y:=by
 have e:=qy _ w rfl
 have hmo:=w.more
 have hq1:(leap m p.i p.perturb).2<2 ^ 64:=by have:=w.q; show p.perturb / 32<2 ^ 64; omega
 have l1:=qt m p.i p.perturb
 generalize (leap m p.i p.perturb).1=i at e l1
 generalize (leap m p.i p.perturb).2=q at e hq1
 have hz:(sH m 13 i q).2=0:=by rw[O4]; exact Nat.div_eq_of_lt (by omega)
 have l13:=vJ m 13 i q l1
 obtain⟨r,hr,er⟩:=Ak k (sH m 13 i q).1 y
 rw[<- hm] at hr er
 obtain⟨n,hn,en⟩:=Iu (13+r) i q l1 hq1
 rw[Ae,hz] at en
 have lr:=vJ m r (sH m 13 i q).1 0 l13
 have ey:(sH m r (sH m 13 i q).1 0).1=y:=by
  have:=vI m r (sH m 13 i q).1
  rw[er,Ht (by omega),Ht (by omega)] at this
  exact this
 rw[ey] at en
 exact⟨p.more+1+n,by omega,by rw[lB,e,en]; rfl⟩
def Bf (xs:Array Nat):Prop:=∀(a b x y:Nat),xs[a]?=some x->xs[b]?=some y->a<b->x<y
theorem Bf.inj {xs:Array Nat} (h:Bf xs) {a b x:Nat} (ha:xs[a]?=some x) (hb:xs[b]?=some x):a=b:=by
 rcases Nat.lt_trichotomy a b with z | z | z
 ·have:=h _ _ _ _ ha hb z; omega
 ·exact z
 ·have:=h _ _ _ _ hb ha z; omega
theorem wI {xs:Array Nat} (R:Bf xs) {j:Nat}:∀(fuel lo hi:Nat),hi-lo<=fuel->lo<=hi->hi<=xs.size->(∀i x,i<lo->xs[i]?=some x->x<j)->(∀i x,hi<=i->xs[i]?=some x->j<=x) ->
  lo<=SetTable.below.go xs j fuel lo hi/\SetTable.below.go xs j fuel lo hi<=hi/\(∀i x,i<SetTable.below.go xs j fuel lo hi->xs[i]?=some x->x<j)/\(∀i x,SetTable.below.go xs j fuel lo hi<=i->xs[i]?=some x->j<=x)
 | 0,lo,hi,hf,h1,_,h2,h3=>by
  unfold SetTable.below.go
  have:lo=hi:=by omega
  subst this
  exact⟨cW _,cW _,h2,h3⟩
 | fuel+1,lo,hi,hf,h1,hs,h2,h3=>by
  unfold SetTable.below.go
  by_cases c:lo<hi
  ·rw[aM c]
   have hm:(lo+hi) / 2<hi/\lo<=(lo+hi) / 2:=by omega
   generalize (lo+hi) / 2=mid at hm
   have hb:mid<xs.size:=by omega
   have eg:xs.getD mid j=xs[mid]:=by simp[Array.getD,hb]
   have em:xs[mid]?=some xs[mid]:=Cr hb
   dsimp only
   rw[eg]
   by_cases d:xs[mid]<j
   ·rw[aM d]
    obtain⟨g1,g2,g3,g4⟩:=wI R fuel (mid+1) hi (by omega) (by omega) hs (fun i x hi' e=>by
     rcases Nat.lt_or_ge i mid with z | z
     ·have:=R _ _ _ _ e em z; omega
     ·have:i=mid:=by omega
      subst this
      rw[em] at e; cases e; exact d) h3
    exact⟨by omega,g2,g3,g4⟩
   ·rw[aK d]
    obtain⟨g1,g2,g3,g4⟩:=wI R fuel lo mid (by omega) (by omega) (by omega) h2 (fun i x hi' e=>by
     rcases Nat.lt_or_ge mid i with z | z
     ·have:=R _ _ _ _ em e z; omega
     ·have:i=mid:=by omega
      subst this
      rw[em] at e; cases e; omega)
    exact⟨g1,by omega,g3,g4⟩
  ·rw[aK c]
   have:lo=hi:=by omega
   subst this
   exact⟨cW _,cW _,h2,h3⟩
theorem Eg {xs:Array Nat} (R:Bf xs) (j:Nat):SetTable.below xs j<=xs.size/\(∀i x,i<SetTable.below xs j->xs[i]?=some x->x<j)/\(∀i x,SetTable.below xs j<=i->xs[i]?=some x->j<=x):=by
 have:=wI R (j:=j) xs.size 0 xs.size (by omega) (by omega) (cW _) (fun i x h=>by omega) (fun i x h e=>by
  have:=(xf.mp e).1; omega)
 exact⟨this.2.1,this.2.2.1,this.2.2.2⟩
theorem xX {t:SetTable} (R:Bf t.place) {i j:Nat} (h:t.place[i]?=some j):t.slot j=.live i:=by
 obtain⟨_,h2,h3⟩:=Eg R j
 have e:SetTable.below t.place j=i:=by
  rcases Nat.lt_trichotomy (SetTable.below t.place j) i with z | z | z
  ·have hb:SetTable.below t.place j<t.place.size:=by have:=(xf.mp h).1; omega
   have:=R _ _ _ _ (Cr hb) h z
   have:=h3 _ _ (cW _) (Cr hb)
   omega
  ·exact z
  ·have:=h2 _ _ z h; omega
 unfold SetTable.slot
 dsimp only
 rw[e,h]
 simp
theorem ux {t:SetTable} (hd:t.dummies = #[]) {j:Nat} (h:∀i:Nat,t.place[i]?≠some j):t.slot j=.empty:=by
 unfold SetTable.slot
 dsimp only
 rw[aK (by simpa using h _),hd]
 rfl
theorem Ss {t:SetTable} (R:Bf t.place) (hd:t.dummies = #[]) (j:Nat):(∃i:Nat,t.place[i]?=some j/\t.slot j=.live i)\/((∀i:Nat,t.place[i]?≠some j)/\t.slot j=.empty):=by
 by_cases c:∃i:Nat,t.place[i]?=some j
 ·obtain⟨i,h⟩:=c
  exact .inl ⟨i,h,xX R h⟩
 ·have:∀i:Nat,t.place[i]?≠some j:=fun i e=>c ⟨i,e⟩
  exact .inr ⟨this,ux hd this⟩
theorem vm {t:SetTable} {hashAt:Nat->Int} {h:Int}:∀(n fuel:Nat) (p:Probe),n<fuel->(∀n',n'<n->∃i,t.slot (fQ t.mask n' p).j=.live i/\(hashAt i==h)=false) ->
  SetTable.probe.go t hashAt h fuel p=SetTable.probe.go t hashAt h (fuel-n) (fQ t.mask n p)
 | 0,fuel,p,_,_=>rfl
 | n+1,0,p,hf,_=>by omega
 | n+1,fuel+1,p,hf,hl=>by
  obtain⟨i,e1,e2⟩:=hl 0 (by omega)
  have e1:t.slot p.j=.live i:=e1
  have:=vm n fuel (yZ t.mask p) (by omega) fun n' hn'=>hl (n'+1) (by omega)
  rw[show fuel+1-(n+1)=fuel-n by omega]
  show SetTable.probe.go t hashAt h (fuel+1) p=SetTable.probe.go t hashAt h (fuel-n) (fQ t.mask n (yZ t.mask p))
  rw[<- this]
  conv=>lhs; unfold SetTable.probe.go
  rw[e1]
  dsimp only
  rw[e2]
  rfl
theorem De {t:SetTable} {hashAt:Nat->Int} {h:Int} {p:Probe} {n:Nat} (w:WP t.mask p) (hn:n<10*turns t.mask) (hl:∀n',n'<n->∃i,t.slot (fQ t.mask n' p).j=.live i/\(hashAt i==h)=false) (he:t.slot (fQ t.mask n p).j=.empty) :
  t.probe hashAt h p=some (.empty (fQ t.mask n p).j none):=by
 unfold SetTable.probe
 rw[vm n _ p hn hl]
 obtain⟨f,hf⟩:∃f,10*turns t.mask-n=f+1:=⟨10*turns t.mask-n-1,by omega⟩
 rw[hf]
 unfold SetTable.probe.go
 rw[he]
 dsimp only
 rw[(w.fQ n).d]
theorem Fz {t:SetTable} {hashAt:Nat->Int} {h:Int} {p:Probe} {n i:Nat} (hn:n<10*turns t.mask) (hl:∀n',n'<n->∃i,t.slot (fQ t.mask n' p).j=.live i/\(hashAt i==h)=false) (he:t.slot (fQ t.mask n p).j=.live i) (hh:hashAt i=h) :
  t.probe hashAt h p=some (.candidate (fQ t.mask n p).j i (fQ t.mask (n+1) p)):=by
 unfold SetTable.probe
 rw[vm n _ p hn hl]
 obtain⟨f,hf⟩:∃f,10*turns t.mask-n=f+1:=⟨10*turns t.mask-n-1,by omega⟩
 rw[hf]
 unfold SetTable.probe.go
 rw[he]
 dsimp only
 rw[hh,Pk]
 simp[W6]
end L2
namespace L2
open PySem PySem.Spec PyProof.Rows
open SetTable (Probe runEnd leap turns bits)
theorem Dv {P:Nat->Prop}:∀(n:Nat),P n->∃m,m<=n/\P m/\∀k,k<m->¬P k:=fun n h=>by
 induction n using Nat.strongRecOn with
 | _ n ih=>
  by_cases c:∃k,k<n/\P k
  ·obtain⟨k,hk,pk⟩:=c
   obtain⟨m,h1,h2,h3⟩:=ih k hk pk
   exact⟨m,by omega,h2,h3⟩
  ·exact⟨n,cW _,h,fun k hk pk=>c ⟨k,hk,pk⟩⟩
def way (m:Nat) (h:Int) (n:Nat):Nat:=(fQ m n (jmp m (bits h % (m+1)) (bits h))).j
theorem xW (t:SetTable) (h:Int):t.probeStart h=jmp t.mask (bits h % (t.mask+1)) (bits h):=rfl
def Path (m:Nat) (Ks:Nat->Prop) (h:Int) (j:Nat):Prop:=∃n,way m h n=j/\∀n',n'<n->Ks (way m h n')
theorem Path.mono {m:Nat} {Ks Y9:Nat->Prop} {h:Int} {j:Nat} (p:Path m Ks h j) (k:∀y,Ks y->Y9 y):Path m Y9 h j:=by
 obtain⟨n,e,z⟩:=p
 exact⟨n,e,fun n' hn=>k _ (z n' hn)⟩
structure Lj (t:SetTable) (hs:List Int):Prop where
 dm:t.dummies = #[]
 ri:Bf t.place
 sz:t.place.size=hs.length
 le:∀i j:Nat,t.place[i]?=some j->j<=t.mask
 pw:∃k,3<=k/\k<=12/\t.mask+1=2 ^ k
 fl:5*hs.length<3*t.mask
 pa:∀(i:Nat) (h:Int) (j:Nat),hs[i]?=some h->t.place[i]?=some j->Path t.mask (fun y=>∃i:Nat,t.place[i]?=some y) h j
theorem Lj.odd {t:SetTable} {hs:List Int} (T:Lj t hs):t.gaveWay=false:=by
 obtain⟨k,h1,_,h2⟩:=T.pw
 unfold SetTable.gaveWay
 obtain⟨k',rfl⟩:∃k',k=k'+1:=⟨k-1,by omega⟩
 rw[CG] at h2
 have:t.mask % 2=1:=by omega
 rw[this]; rfl
theorem Lj.fits {t:SetTable} {hs:List Int} (T:Lj t hs):t.fits hs.length=true:=by
 have h1:=T.sz
 have h2:=T.fl
 simp only[SetTable.fits,SetTable.fill,T.dm,h1,wW,beq_iff_eq,decide_eq_true_eq]
 refine⟨trivial,?_⟩
 show hs.length+0<=t.mask
 omega
theorem JS {xs:Array Nat} (R:Bf xs) {m:Nat} (h:xs.size<=m):∃y,y<=m/\∀i:Nat,xs[i]?≠some y:=by
 by_cases c:∃y,y<=m/\∀i:Nat,xs[i]?≠some y
 ·exact c
 ·exfalso
  have all:∀y,y<=m->∃i:Nat,xs[i]?=some y:=fun y hy=>by
   by_cases d:∃i:Nat,xs[i]?=some y
   ·exact d
   ·exact absurd ⟨y,hy,fun i e=>d ⟨i,e⟩⟩ c
  have up:∀y,y<=m->∃i:Nat,y<=i/\xs[i]?=some y:=by
   intro y
   induction y with
   | zero=>intro hy; obtain⟨i,hi⟩:=all 0 hy; exact⟨i,e_ _,hi⟩
   | succ y ih=>
    intro hy
    obtain⟨i,h1,h2⟩:=ih (by omega)
    obtain⟨i',h3⟩:=all (y+1) hy
    refine⟨i',?_,h3⟩
    rcases Nat.lt_or_ge i i' with z | z
    ·omega
    ·rcases Nat.lt_or_eq_of_le z with z | z
     ·have:=R _ _ _ _ h3 h2 z; omega
     ·subst z; rw[h2] at h3; cases h3
  obtain⟨i,h1,h2⟩:=up m (cW _)
  have:=(xf.mp h2).1
  omega
theorem Lj.first {t:SetTable} {hs:List Int} (T:Lj t hs) {p:Probe} (w:WP t.mask p):∃M,M<10*turns t.mask/\(∀n,n<M->∃i:Nat,t.place[i]?=some (fQ t.mask n p).j/\t.slot (fQ t.mask n p).j=.live i)/\(∀i:Nat,t.place[i]?≠some (fQ t.mask M p).j)/\t.slot (fQ t.mask M p).j=.empty:=by
 obtain⟨k,_,_,hk⟩:=T.pw
 have h2:=T.fl
 obtain⟨y,hy,hn⟩:=JS T.ri (m:=t.mask) (by rw[T.sz]; omega)
 obtain⟨n,n1,n2⟩:=Qq hk w hy
 obtain⟨M,m1,m2,m3⟩:=Dv (P:=fun n=>∀i:Nat,t.place[i]?≠some (fQ t.mask n p).j) n (by rw[n2]; exact hn)
 refine⟨M,by unfold turns; omega,fun n hn'=>?_,m2,ux T.dm m2⟩
 rcases Ss T.ri T.dm (fQ t.mask n p).j with⟨i,z⟩ | ⟨z,_⟩
 ·exact⟨i,z⟩
 ·exact absurd z (m3 n hn')
theorem m8 {xs:Array Nat} {p x i:Nat} (hp:p<=xs.size):(SetTable.insertAt xs p x)[i]?=if i<p then xs[i]? else if i=p then some x else xs[i-1]?:=by
 rw[<- Cj,SetTable.toList_insertAt,<- Cj,<- Cj]
 have hl:(xs.toList.take p).length=p:=by rw[nW,lQ]; omega
 by_cases c:i<p
 ·rw[aM c,Cw (by omega),List.getElem?_take,aM c]
 ·rw[aK c,zO (by omega),hl]
  by_cases d:i=p
  ·rw[aM d,d,zL]; rfl
  ·rw[aK d]
   obtain⟨q,hq⟩:∃q,i-p=q+1:=⟨i-p-1,by omega⟩
   rw[hq,Cp,CV]
   congr 1
   omega
theorem Pn {α:Type} {xs:List α} {p i:Nat} {x:α} (hp:p<=xs.length):(xs.take p++x::xs.drop p)[i]?=if i<p then xs[i]? else if i=p then some x else xs[i-1]?:=by
 have hl:(xs.take p).length=p:=by rw[nW]; omega
 by_cases c:i<p
 ·rw[aM c,Cw (by omega),List.getElem?_take,aM c]
 ·rw[aK c,zO (by omega),hl]
  by_cases d:i=p
  ·rw[aM d,d,zL]; rfl
  ·rw[aK d]
   obtain⟨q,hq⟩:∃q,i-p=q+1:=⟨i-p-1,by omega⟩
   rw[hq,Cp,CV]
   congr 1
   omega
structure Xz (t:SetTable) (hs:List Int):Prop where
 dm:t.dummies = #[]
 ri:Bf t.place
 sz:t.place.size=hs.length
 le:∀i j:Nat,t.place[i]?=some j->j<=t.mask
 pw:∃k,3<=k/\k<=12/\t.mask+1=2 ^ k
 fl:hs.length<=t.mask
 pa:∀(i:Nat) (h:Int) (j:Nat),hs[i]?=some h->t.place[i]?=some j->Path t.mask (fun y=>∃i:Nat,t.place[i]?=some y) h j
theorem VR {t:SetTable} {j:Nat} (hd:t.dummies = #[]):t.put j=({ t with place:=SetTable.insertAt t.place (SetTable.below t.place j) j,dummies:=#[] },SetTable.below t.place j):=by
 unfold SetTable.put
 rw[hd]; rfl
theorem Lj.put {t:SetTable} {hs:List Int} (T:Lj t hs) {h:Int} {j:Nat} (hj:j<=t.mask) (hn:∀i:Nat,t.place[i]?≠some j) (hp:Path t.mask (fun y=>∃i:Nat,t.place[i]?=some y) h j) :
  Xz (t.put j).1 (hs.take (t.put j).2++h::hs.drop (t.put j).2)/\(t.put j).2<=hs.length/\(t.put j).1.mask=t.mask/\(t.put j).1.dummies = #[]:=by
 rw[VR T.dm]
 dsimp only
 obtain⟨b1,b2,b3⟩:=Eg T.ri j
 generalize SetTable.below t.place j=p at b1 b2 b3
 have hpl:p<=hs.length:=by rw[<- T.sz]; exact b1
 have fl:=T.fl
 have Ks:∀y,(∃i:Nat,t.place[i]?=some y)->∃i:Nat,(SetTable.insertAt t.place p j)[i]?=some y:=fun y ⟨i,e⟩=>by
  by_cases c:i<p
  ·exact⟨i,by rw[m8 b1,aM c]; exact e⟩
  ·exact⟨i+1,by rw[m8 b1,aK (by omega),aK (by omega)]; exact e⟩
 refine⟨⟨rfl,?_,?_,?_,T.pw,?_,?_⟩,hpl,rfl,rfl⟩
 ·intro a b x y ha hb hab
  rw[m8 b1] at ha hb
  by_cases c1:a<p
  ·rw[aM c1] at ha
   by_cases c2:b<p
   ·rw[aM c2] at hb; exact T.ri _ _ _ _ ha hb hab
   ·rw[aK c2] at hb
    have:=b2 _ _ c1 ha
    by_cases c3:b=p
    ·rw[aM c3] at hb; cases hb; exact this
    ·rw[aK c3] at hb
     have:=b3 _ _ (by omega) hb
     omega
  ·rw[aK c1] at ha
   rw[aK (by omega),aK (by omega)] at hb
   by_cases c3:a=p
   ·rw[aM c3] at ha; cases ha
    have h1:=b3 _ _ (by omega) hb
    rcases Nat.lt_or_eq_of_le h1 with z | z
    ·exact z
    ·subst z; exact absurd hb (hn _)
   ·rw[aK c3] at ha
    exact T.ri _ _ _ _ ha hb (by omega)
 ·rw[<- lQ,SetTable.toList_insertAt]
  simp only[gD,nW,nU,Fw,lQ,T.sz]
 ·intro i y hy
  rw[m8 b1] at hy
  by_cases c1:i<p
  ·rw[aM c1] at hy; exact T.le _ _ hy
  ·rw[aK c1] at hy
   by_cases c3:i=p
   ·rw[aM c3] at hy; cases hy; exact hj
   ·rw[aK c3] at hy; exact T.le _ _ hy
 ·simp only[gD,nW,nU,Fw]
  obtain⟨k,k1,_,k2⟩:=T.pw
  have:2 ^ 3<=2 ^ k:=J4 (by decide) k1
  show min p hs.length+(hs.length-p+1)<=t.mask
  omega
 ·intro i g y hg hy
  rw[Pn hpl] at hg
  rw[m8 b1] at hy
  by_cases c1:i<p
  ·rw[aM c1] at hg hy; exact(T.pa _ _ _ hg hy).mono Ks
  ·rw[aK c1] at hg hy
   by_cases c3:i=p
   ·rw[aM c3] at hg hy; cases hg; cases hy; exact hp.mono Ks
   ·rw[aK c3] at hg hy; exact(T.pa _ _ _ hg hy).mono Ks
theorem Xz.ti {t:SetTable} {hs:List Int} (T:Xz t hs) (h:t.tooFull=false):Lj t hs:=by
 refine⟨T.dm,T.ri,T.sz,T.le,T.pw,?_,T.pa⟩
 have:¬(t.fill*5≥t.mask*3):=by simpa[SetTable.tooFull] using h
 have e:t.fill=hs.length:=by
  show t.place.size+t.dummies.size=hs.length
  rw[T.dm,T.sz]; rfl
 rw[e] at this
 omega
end L2
namespace L2
open PySem PySem.Spec PyProof.Rows
open SetTable (Probe runEnd leap turns bits)
theorem vM {m:Nat}:∀(n:Nat) {p:Probe},n<=p.more->(fQ m n p).j=p.j+n
 | 0,p,_=>rfl
 | n+1,p,h=>by
  have e2:yZ m p={ p with j:=p.j+1,more:=p.more-1 }:=by unfold yZ; rw[aM (by omega)]
  have:=vM (m:=m) n (p:=yZ m p) (by rw[e2]; show n<=p.more-1; omega)
  show(fQ m n (yZ m p)).j=p.j+(n+1)
  rw[this,e2]
  show p.j+1+n=p.j+(n+1)
  omega
theorem O5 {k m:Nat} (hm:m+1=2 ^ k) {i q y:Nat} (hi:i<=m) (hq:q<2 ^ 64) (hy:y<=m):∃L,L<turns m/\(sH m L i q).1=y:=by
 have hz:(sH m 13 i q).2=0:=by rw[O4]; exact Nat.div_eq_of_lt (by omega)
 have l13:=vJ m 13 i q hi
 obtain⟨r,hr,er⟩:=Ak k (sH m 13 i q).1 y
 rw[<- hm] at hr er
 have lr:=vJ m r (sH m 13 i q).1 0 l13
 have ey:(sH m r (sH m 13 i q).1 0).1=y:=by
  have:=vI m r (sH m 13 i q).1
  rw[er,Ht (by omega),Ht (by omega)] at this
  exact this
 exact⟨13+r,by unfold turns; omega,by rw[Ae,hz]; exact ey⟩
theorem Jb {m:Nat} {ow:Array (Option Nat)}:∀(fuel i q:Nat),i<=m->q<2 ^ 64->(∃L,L<fuel/\ow.getD (sH m L i q).1 (some 0)=none) ->
  ∃n,SetTable.layClean.free m ow fuel i q=some (fQ m n (jmp m i q)).j/\ow.getD (fQ m n (jmp m i q)).j (some 0)=none/\∀n',n'<n->ow.getD (fQ m n' (jmp m i q)).j (some 0)≠none
 | 0,i,q,_,_,h=>by obtain⟨L,h,_⟩:=h; omega
 | fuel+1,i,q,hi,hq,h=>by
  unfold SetTable.layClean.free
  have r:=gC hi
  have hmo:(jmp m i q).more=runEnd m i-i:=rfl
  have hj:(jmp m i q).j=i:=rfl
  cases ef:(List.range (runEnd m i+1-i)).find? fun k=>(ow.getD (i+k) (some 0)).isNone with
  | some k=>
   obtain⟨k1,l1,l2,e1,e2⟩:=List.find?_eq_some_iff_append.mp ef
   have hk:k<runEnd m i+1-i:=zN.mp (by rw[e1]; simp)
   refine⟨k,?_,?_,fun n' hn'=>?_⟩
   ·rw[vM k (by omega)]; rfl
   ·rw[vM k (by omega),hj]; exact Option.isNone_iff_eq_none.mp k1
   ·rw[vM n' (by omega),hj]
    intro z
    have hm1:n'∈l1:=by
     have hmem:n'∈List.range (runEnd m i+1-i):=zN.mpr (by omega)
     have hpw:=List.pairwise_lt_range (n:=runEnd m i+1-i)
     rw[e1] at hmem hpw
     rcases oV.mp hmem with z | z
     ·exact z
     ·exfalso
      rcases b8.mp z with z | z
      ·omega
      ·have:=(List.pairwise_cons.mp (List.pairwise_append.mp hpw).2.1).1 _ z
       omega
    have:=e2 _ hm1
    rw[z] at this
    exact absurd this (by decide)
  | none=>
   have hno:∀n',n'<=(jmp m i q).more->ow.getD (fQ m n' (jmp m i q)).j (some 0)≠none:=fun n' hn' z=>by
    rw[vM n' hn',hj] at z
    have:=List.find?_eq_none.mp ef n' (zN.mpr (by omega))
    rw[z] at this
    exact absurd rfl this
   obtain⟨L,hL,eL⟩:=h
   have L0:L≠0:=fun z=>by
    subst z
    exact hno 0 (e_ _) eL
   obtain⟨L',rfl⟩:∃L',L=L'+1:=⟨L-1,by omega⟩
   have hq':(leap m i q).2<2 ^ 64:=by show q / 32<2 ^ 64; omega
   obtain⟨n,h1,h2,h3⟩:=Jb fuel (leap m i q).1 (leap m i q).2 (qt m i q) hq' ⟨L',by omega,eL⟩
   have e:=qy _ (Ai hi hq) rfl
   have es:∀n',fQ m ((jmp m i q).more+1+n') (jmp m i q)=fQ m n' (jmp m (leap m i q).1 (leap m i q).2):=fun n'=>by rw[lB,e]; rfl
   refine⟨(jmp m i q).more+1+n,?_,?_,fun n' hn'=>?_⟩
   ·rw[es]; exact h1
   ·rw[es]; exact h2
   ·by_cases c:n'<=(jmp m i q).more
    ·exact hno n' c
    ·obtain⟨d,hd⟩:∃d,n'=(jmp m i q).more+1+d:=⟨n'-((jmp m i q).more+1),by omega⟩
     rw[hd,es]
     exact h3 d (by omega)
structure OW (m:Nat) (ow:Array (Option Nat)) (hs:List Int):Prop where
 sz:ow.size=m+1
 ct:ow.toList.countP Option.isSome=hs.length
 at_:∀(l:Nat) (h:Int),hs[l]?=some h->∃j,j<=m/\ow[j]?=some (some l)/\Path m (fun y=>∃l,ow[y]?=some (some l)) h j
 lt:∀j l:Nat,ow[j]?=some (some l)->l<hs.length
 inj:∀j j' l:Nat,ow[j]?=some (some l)->ow[j']?=some (some l)->j=j'
theorem getD_none {ow:Array (Option Nat)} {j:Nat} (h:ow.getD j (some 0)=none):ow[j]?=some none:=by
 rw[J6] at h
 cases e:ow[j]? with
 | none=>rw[e] at h; cases h
 | some o=>rw[e] at h; exact jl some h
theorem OW.push {k m:Nat} (hm:m+1=2 ^ k) {ow:Array (Option Nat)} {hs:List Int} (W:OW m ow hs) (h:Int) (hl:hs.length<=m) :
  ∃j,SetTable.layClean.free m ow (turns m) (bits h % (m+1)) (bits h)=some j/\OW m (ow.setIfInBounds j (some hs.length)) (hs++[h]):=by
 have hb:bits h<2 ^ 64:=by
  unfold bits
  have:=Ci h (show(0:Int)<2 ^ 64 by decide)
  have:=Cd h (show(2:Int) ^ 64≠0 by decide)
  omega
 have hi:bits h % (m+1)<=m:=Nat.le_of_lt_succ (Nat.mod_lt _ (Nat.succ_pos m))
 obtain⟨y,hy,ey⟩:∃y,y<=m/\ow.getD y (some 0)=none:=by
  by_cases c:∃y,y<=m/\ow.getD y (some 0)=none
  ·exact c
  ·exfalso
   have:ow.toList.countP Option.isSome=ow.toList.length:=List.countP_eq_length.mpr fun o ho=>by
    obtain⟨i,hi⟩:=Cm.mp ho
    cases o with
    | some _=>rfl
    | none=>
     have hlt:i<ow.toList.length:=(fK.mp hi).1
     rw[lQ,W.sz] at hlt
     rw[Cj] at hi
     exact absurd ⟨i,by omega,by rw[J6,hi]; rfl⟩ c
   have h2:ow.toList.length=m+1:=by rw[lQ,W.sz]
   have h3:=W.ct
   omega
 obtain⟨L,hL,eL⟩:=O5 hm hi hb hy
 obtain⟨n,f1,f2,f3⟩:=Jb (ow:=ow) (turns m) _ _ hi hb ⟨L,hL,by rw[eL]; exact ey⟩
 have wj:(fQ m n (jmp m (bits h % (m+1)) (bits h))).j<=m:=((Ai hi hb).fQ n).le
 have f3:∀n',n'<n->ow.getD (way m h n') (some 0)≠none:=f3
 have ej:(fQ m n (jmp m (bits h % (m+1)) (bits h))).j=way m h n:=rfl
 rw[ej] at f1 f2 wj
 have g2:=getD_none f2
 refine⟨_,f1,?_⟩
 generalize hj:way m h n=j at f1 f2 wj g2
 have hjs:j<ow.size:=by rw[W.sz]; omega
 have get:∀y:Nat,(ow.setIfInBounds j (some hs.length))[y]?=if y=j then some (some hs.length) else ow[y]?:=fun y=>by
  rw[Array.getElem?_setIfInBounds]
  by_cases c:j=y
  ·subst c; simp[hjs]
  ·rw[aK c,aK (fun z=>c z.symm)]
 have Ks:∀y:Nat,(∃l,ow[y]?=some (some l))->∃l,(ow.setIfInBounds j (some hs.length))[y]?=some (some l):=fun y ⟨l,e⟩=>by
  rw[get]
  by_cases c:y=j
  ·exact⟨_,aM c⟩
  ·exact⟨l,by rw[aK c]; exact e⟩
 refine⟨by rw[Array.size_setIfInBounds]; exact W.sz,?_,fun l h' hl'=>?_,fun y l hy'=>?_,fun y y' l h1 h2=>?_⟩
 ·rw[Array.toList_setIfInBounds,List.countP_set (by rw[lQ]; exact hjs),W.ct,gD]
  have e0:ow.toList[j]'(by rw[lQ]; exact hjs)=none:=by
   have:=Cr hjs
   rw[g2] at this
   simpa using this.symm
  rw[e0]
  simp
 ·by_cases c:l<hs.length
  ·rw[Cw c] at hl'
   obtain⟨y',h1,h2,h3⟩:=W.at_ _ _ hl'
   refine⟨y',h1,?_,h3.mono Ks⟩
   rw[get,aK (fun z=>by rw[z,g2] at h2; cases h2)]
   exact h2
  ·have hl2:l<(hs++[h]).length:=(fK.mp hl').1
   rw[gD] at hl2
   have e:l=hs.length:=by simp at hl2; omega
   subst e
   rw[zO (cW _),zL] at hl'
   cases hl'
   refine⟨j,wj,by rw[get,aM rfl],n,hj,fun n' hn'=>?_⟩
   refine Ks _ ?_
   have z:=f3 n' hn'
   cases e:ow[way m h n']? with
   | none=>
    exfalso
    have:way m h n'<=m:=((Ai hi hb).fQ n').le
    have:=Array.getElem?_eq_none_iff.mp e
    rw[W.sz] at this
    omega
   | some o=>
    cases o with
    | none=>exact absurd (by rw[J6,e]; rfl) z
    | some l=>exact⟨l,rfl⟩
 ·rw[get] at hy'
  rw[gD]
  by_cases c:y=j
  ·rw[aM c] at hy'; cases hy'; simp
  ·rw[aK c] at hy'; have:=W.lt _ _ hy'; simp; omega
 ·rw[get] at h1 h2
  by_cases c1:y=j
  ·rw[aM c1] at h1; cases h1
   by_cases c2:y'=j
   ·rw[c1,c2]
   ·rw[aK c2] at h2; have:=W.lt _ _ h2; omega
  ·rw[aK c1] at h1
   by_cases c2:y'=j
   ·rw[aM c2] at h2; cases h2; have:=W.lt _ _ h1; omega
   ·rw[aK c2] at h2; exact W.inj _ _ _ h1 h2
def tZ (m:Nat) (acc:Option (Array (Option Nat)×Nat)) (h:Int):Option (Array (Option Nat)×Nat):=do
  let (owner,k) <- acc
  let j <- SetTable.layClean.free m owner (turns m) (bits h % (m+1)) (bits h)
  pure (owner.setIfInBounds j (some k),k+1)
theorem Dy {k m:Nat} (hm:m+1=2 ^ k):∀(rest hs:List Int) (ow:Array (Option Nat)),OW m ow hs->(hs++rest).length<=m+1 ->
  ∃ow',rest.foldl (tZ m) (some (ow,hs.length))=some (ow',(hs++rest).length)/\OW m ow' (hs++rest)
 | [],hs,ow,W,_=>⟨ow,by rw[mL]; rfl,by rw[mL]; exact W⟩
 | h::rest,hs,ow,W,hl=>by
  rw[gD,nU] at hl
  obtain⟨j,f,W'⟩:=W.push hm h (by omega)
  obtain⟨ow',e,W''⟩:=Dy hm rest (hs++[h]) _ W' (by simp; omega)
  rw[Cg] at e W''
  refine⟨ow',?_,W''⟩
  rw[List.foldl_cons]
  have e1:tZ m (some (ow,hs.length)) h=some (ow.setIfInBounds j (some hs.length),(hs++[h]).length):=by
   show(do let j <- SetTable.layClean.free m ow (turns m) (bits h % (m+1)) (bits h); pure (ow.setIfInBounds j (some hs.length),hs.length+1))=_
   rw[f,gD]; rfl
  rw[e1]
  exact e
theorem OW.nil (m:Nat):OW m (Array.replicate (m+1) none) []:=by
 have get:∀(j:Nat) (o:Option Nat),(Array.replicate (m+1) (none:Option Nat))[j]?=some o->o=none:=fun j o h=>by
  rw[Array.getElem?_replicate] at h
  split at h
  ·cases h; rfl
  ·cases h
 exact⟨by simp,by simp,fun l h z=>by simp at z,fun j l h=>(by have:=get _ _ h; cases this),fun j j' l h _=>(by have:=get _ _ h; cases this)⟩
theorem Dz {k m:Nat} (hm:m+1=2 ^ k) (hs:Array Int) (hl:hs.size<=m+1):∃ow,SetTable.layClean m hs=some ow/\OW m ow hs.toList:=by
 obtain⟨ow,e,W⟩:=Dy hm hs.toList [] _ (OW.nil m) (by simpa using hl)
 refine⟨ow,?_,by simpa using W⟩
 have e2:SetTable.layClean m hs=(hs.foldl (tZ m) (some (Array.replicate (m+1) none,0))).map (·.1):=rfl
 rw[e2,<- Array.foldl_toList]
 have e3:List.foldl (tZ m) (some (Array.replicate (m+1) none,0)) hs.toList=some (ow,([]++hs.toList).length):=e
 rw[e3]; rfl
theorem Qj {α β:Type} {f:α->Option β}:∀{l:List α} (i:Nat),(∀x∈l,(f x).isSome=true)->(l.filterMap f)[i]?=l[i]?.bind f
 | [],i,_=>by simp
 | x::l,i,h=>by
  obtain⟨y,hy⟩:=Cq.mp (h x (by simp))
  rw[List.filterMap_cons_some hy]
  cases i with
  | zero=>simp[hy]
  | succ i=>rw[Cp,Cp]; exact Qj i fun z hz=>h z (by simp[hz])
theorem Gm {α β:Type} {f:α->Option β}:∀{l:List α},(∀x∈l,(f x).isSome=true)->(l.filterMap f).length=l.length
 | [],_=>rfl
 | x::l,h=>by
  obtain⟨y,hy⟩:=Cq.mp (h x (by simp))
  rw[List.filterMap_cons_some hy,nU,nU,Gm fun z hz=>h z (by simp[hz])]
def dz (m:Nat) (ow:Array (Option Nat)):List (Nat×Nat):=(List.range (m+1)).filterMap fun j=>(ow.getD j none).map (j,·)
theorem jd {m:Nat} {ow:Array (Option Nat)} {j l:Nat} (hs:ow.size=m+1):(j,l)∈dz m ow↔ow[j]?=some (some l):=by
 unfold dz
 rw[List.mem_filterMap]
 constructor
 ·rintro⟨y,h1,h2⟩
  obtain⟨l',h3,h4⟩:=nY.mp h2
  cases h4
  rw[J6] at h3
  cases e:ow[j]? with
  | none=>rw[e] at h3; cases h3
  | some o=>rw[e] at h3; exact jl some h3
 ·intro h
  have:=(xf.mp h).1
  exact⟨j,zN.mpr (by omega),by rw[J6,h]; rfl⟩
theorem Im {m:Nat} {ow:Array (Option Nat)}:(dz m ow).Pairwise fun p q=>p.1<q.1:=by
 unfold dz
 refine List.Pairwise.filterMap _ ?_ List.pairwise_lt_range
 intro a a' h b hb b' hb'
 obtain⟨_,_,rfl⟩:=nY.mp hb
 obtain⟨_,_,rfl⟩:=nY.mp hb'
 exact h
theorem O7 {m:Nat} {ow:Array (Option Nat)} {hs:List Int} (W:OW m ow hs):(dz m ow).length=hs.length:=by
 unfold dz
 rw[List.length_filterMap_eq_countP,<- W.ct]
 have e:ow.toList=(List.range (m+1)).map fun j=>ow.getD j none:=by
  apply List.ext_getElem?
  intro i
  rw[Cj,g8]
  by_cases c:i<m+1
  ·rw[List.getElem?_range c]
   have hb:i<ow.size:=by rw[W.sz]; exact c
   rw[yt,J6,Cr hb]; rfl
  ·rw[HD (by simp; omega),Array.getElem?_eq_none (by rw[W.sz]; omega)]; rfl
 rw[e,List.countP_map]
 congr 1
 funext j
 simp
theorem Sx {k m:Nat} (h3:3<=k) (h12:k<=12) (hm:m+1=2 ^ k) {fi mo:Nat} {le pl:Bool} (hs:Array Int) (hl:5*hs.size<3*m) :
  ∃t order,SetTable.laid m fi mo le pl hs=some (t,order)/\order.toList.length=hs.size/\(∀l∈order.toList,l<hs.size)/\(∀l,l<hs.size->l∈order.toList)/\order.toList.Nodup/\Lj t (order.toList.filterMap (hs.toList[·]?)):=by
 obtain⟨ow,e,W⟩:=Dz hm hs (by omega)
 have e1:SetTable.laid m fi mo le pl hs=some ({ mask:=m,place:=((dz m ow).map (·.1)).toArray,dummies:=#[],finger:=fi,led:=le,moves:=mo,plain:=pl },((dz m ow).map (·.2)).toArray):=by
  unfold SetTable.laid
  rw[e]; rfl
 have hlen:=O7 W
 rw[lQ] at hlen
 have lt:∀l∈(dz m ow).map (·.2),l<hs.size:=fun l hl=>by
  obtain⟨⟨j,l'⟩,h1,h2⟩:=g_.mp hl
  cases h2
  have:=W.lt _ _ ((jd W.sz).mp h1)
  simpa using this
 have all:∀l,l<hs.size->l∈(dz m ow).map (·.2):=fun l hl=>by
  obtain⟨j,h1,h2,_⟩:=W.at_ l hs[l] (by simp[hl])
  exact g_.mpr ⟨(j,l),(jd W.sz).mpr h2,rfl⟩
 have some_:∀l∈(dz m ow).map (·.2),(hs.toList[l]?).isSome=true:=fun l hl=>by
  have:=lt l hl
  rw[eV (by simpa using this)]; rfl
 have ndp:((dz m ow).map (·.2)).Nodup:=by
  rw[List.Nodup,List.pairwise_map,Ny]
  intro a b ha hb hab z
  have:=Ny.mp (Im (m:=m) (ow:=ow)) a b ha hb hab
  have g1:ow[(dz m ow)[a].1]?=some (some (dz m ow)[a].2):=(jd W.sz).mp (CN ha)
  have g2:ow[(dz m ow)[b].1]?=some (some (dz m ow)[b].2):=(jd W.sz).mp (CN hb)
  rw[z] at g1
  have:=W.inj _ _ _ g1 g2
  omega
 refine⟨_,_,e1,?_,lt,all,ndp,?_⟩
 ·show((dz m ow).map (·.2)).length=hs.size
  rw[bR]; exact hlen
 ·have aa0:((dz m ow).map (·.1)).length=hs.size:=by rw[bR]; exact hlen
  have YX:(((dz m ow).map (·.2)).filterMap (hs.toList[·]?)).length=hs.size:=by rw[Gm some_,bR]; exact hlen
  have RM:∀i j:Nat,(((dz m ow).map (·.1)).toArray)[i]?=some j->∃l,(dz m ow)[i]?=some (j,l):=fun i j h=>by
   rw[HF,g8] at h
   obtain⟨⟨j',l⟩,h1,h2⟩:=nY.mp h
   cases h2
   exact⟨l,h1⟩
  have Ks:∀y,(∃l,ow[y]?=some (some l))->∃i:Nat,(((dz m ow).map (·.1)).toArray)[i]?=some y:=fun y ⟨l,h⟩=>by
   obtain⟨i,hi⟩:=Cm.mp ((jd W.sz).mpr h)
   exact⟨i,by rw[HF,g8,hi]; rfl⟩
  refine⟨rfl,?_,?_,?_,⟨k,h3,h12,hm⟩,?_,?_⟩
  ·intro a b x y ha hb hab
   obtain⟨l,h1⟩:=RM _ _ ha
   obtain⟨l',h2⟩:=RM _ _ hb
   obtain⟨g1,g2⟩:=fK.mp h1
   obtain⟨g3,g4⟩:=fK.mp h2
   have:=Ny.mp (Im (m:=m) (ow:=ow)) a b g1 g3 hab
   rw[g2,g4] at this
   exact this
  ·show((dz m ow).map (·.1)).toArray.size=_
   rw[fJ,aa0,YX]
  ·intro i j h
   obtain⟨l,h1⟩:=RM _ _ h
   have:=(jd W.sz).mp (jW h1)
   have:=(xf.mp this).1
   rw[W.sz] at this
   show j<=m
   omega
  ·show 5*(((dz m ow).map (·.2)).filterMap (hs.toList[·]?)).length<3*m
   rw[YX]; exact hl
  ·intro i h j h1 h2
   obtain⟨l,g1⟩:=RM _ _ h2
   have h1:(((dz m ow).map (·.2)).filterMap (hs.toList[·]?))[i]?=some h:=h1
   rw[Qj i some_,g8,g1] at h1
   have h1:hs.toList[l]?=some h:=h1
   obtain⟨j',f1,f2,f3⟩:=W.at_ _ _ h1
   have:=W.inj _ _ _ f2 ((jd W.sz).mp (jW g1))
   subst this
   exact f3.mono Ks
theorem Ek (n:Nat):∀(fuel k:Nat),n<2 ^ (k+fuel)->3<=k->∃k',SetTable.sizeAbove.go n fuel (2 ^ k)=2 ^ k'/\k<=k'/\n<2 ^ k'/\(k'=k\/2 ^ (k'-1)<=n)
 | 0,k,h,_=>⟨k,rfl,cW _,h,.inl rfl⟩
 | fuel+1,k,h,h3=>by
  unfold SetTable.sizeAbove.go
  by_cases c:2 ^ k<=n
  ·rw[aM c,<- CG]
   obtain⟨k',h1,h2,h4,h5⟩:=Ek n fuel (k+1) (by rw[show k+1+fuel=k+(fuel+1) by omega]; exact h) (by omega)
   refine⟨k',h1,by omega,h4,.inr ?_⟩
   rcases h5 with z | z
   ·rw[z]; exact c
   ·exact z
  ·rw[aK c]
   exact⟨k,rfl,cW _,by omega,.inl rfl⟩
theorem QC {n:Nat} (h:n<2 ^ 12):∃k,SetTable.sizeAbove n=2 ^ k/\3<=k/\k<=12/\n<2 ^ k:=by
 obtain⟨k,h1,h2,h3,h4⟩:=Ek n 64 3 (jV h (J4 (by decide) (by decide))) (cW _)
 refine⟨k,h1,h2,?_,h3⟩
 rcases h4 with z | z
 ·omega
 ·have:¬12<k:=fun q=>by
   have:2 ^ 12<=2 ^ (k-1):=J4 (by decide) (by omega)
   omega
  omega
theorem JT {t:SetTable} (hs:Array Int) (hn:1<=hs.size) (hl:hs.size<=1000):∃t' order,t.relaid hs (SetTable.grown hs.size)=some (t',order)/\order.toList.length=hs.size/\(∀l∈order.toList,l<hs.size)/\(∀l,l<hs.size->l∈order.toList)/\order.toList.Nodup/\Lj t' (order.toList.filterMap (hs.toList[·]?))/\SetTable.sizeAbove (SetTable.grown hs.size)<=4096:=by
 have eg:SetTable.grown hs.size=hs.size*4:=by unfold SetTable.grown; rw[aK (by omega)]
 rw[eg]
 obtain⟨k,h1,h2,h3,h4⟩:=QC (n:=hs.size*4) (by omega)
 unfold SetTable.relaid
 rw[h1]
 have hp:2 ^ k-1+1=2 ^ k:=by omega
 obtain⟨t',order,g1,g2,g3,g4,g6,g5⟩:=Sx (fi:=t.finger) (mo:=t.movedTo (2 ^ k-1)) (le:=t.led) (pl:=t.plain) h2 h3 hp hs (by omega)
 exact⟨t',order,g1,g2,g3,g4,g6,g5,(J4 (n:=2) (j:=12) (by decide) h3)⟩
end L2
namespace L2
open PySem PySem.Spec PyProof.Rows
open SetTable (Probe runEnd leap turns bits)
def Jv (prog:Program) (w:World) (d:PyData):Prop:=∀(n:Nat) (A:Around) (E:Value->Shared->Prop) (s:Shared) (v:Value) (as:List Addr) (Q:Bool->Shared->Prop),Reads s.heap v d as->d.depth<=n->Q false s ->
 wpAny (model prog w) A (ofAClassStatement n v) Q E s
theorem Tj {prog:Program} {w:World} {ds:List PyData} (ih:∀d∈ds,Jv prog w d):Jv prog w (.tuple ds):=by
 intro n A E s v as Q r hn h
 have hn:PyData.depthAll ds+1<=n:=hn
 obtain⟨m,rfl⟩:∃m,n=m+1:=⟨n-1,by omega⟩
 cases r with
 | @tuple a o items nn _ _ ho hc hd hi=>
 have hT:s.TypeIs (.ref a) "tuple" := ⟨o,ho,hc⟩
 unfold ofAClassStatement
 refine aN (ym hT ?_)
 dsimp only
 refine aN ?_
 refine bK ?_
 simp only[zM,jn,if_false]
 refine aN (oU ho hd ?_)
 refine aN ?_
 show wpAny _ _ (forIn items _ _) _ _ s
 rw[<- Hx]
 refine CQ _ (fun rest r s'=>r.1=none/\s'=s/\∃left bs,(∀d∈left,d∈ds)/\ReadsAll s.heap rest left bs) _ ?_ ?_ _ _ ⟨rfl,rfl,ds,_,fun d h=>h,hi⟩
 ·rintro v rest r s' ⟨hr,rfl,left,bs,hall,hl⟩
  cases hl with
  | @cons _ _ k ks' as1 Xv h1 hl'=>
  have hk:=hall k jo
  have:=j8 hk
  refine aN (ih k hk m _ _ _ _ _ _ h1 (by omega) ?_)
  simp only[jn,if_false]
  exact bK ⟨rfl,rfl,ks',Xv,fun d h=>hall d (il _ h),hl'⟩
 ·rintro⟨r1,r2⟩ s' ⟨hr,rfl,_⟩
  simp only at hr
  subst hr
  exact bK h
mutual
theorem DY {prog:Program} {w:World}:∀d:PyData,oY d=true->Jv prog w d
 | .int i,_=>by
  intro n A E s v as Q r hu h
  cases r
  cases n <;> exact bK h
 | .tuple ds,h=>Tj (yO ds (by simpa[oY] using h))
 | .none,h=>nomatch h
 | .bool _,h=>nomatch h
 | .str _,h=>nomatch h
 | .list _,h=>nomatch h
 | .dict _,h=>nomatch h
theorem yO {prog:Program} {w:World}:∀ds:List PyData,d9 ds=true->∀d∈ds,Jv prog w d
 | [],_,d,hd=>by cases hd
 | x::ds,h,d,hd=>by
  have h':oY x=true/\d9 ds=true:=by simpa[d9] using h
  rcases b8.mp hd with e | e
  ·rw[e]; exact DY x h'.1
  ·exact yO ds h'.2 d e
end
section
variable {prog:Program} {w:World} {A:Around} {E:Value->Shared->Prop} {s:Shared}
theorem nest_cls {d:PyData} {b:Addr} (h:(bu prog w).is s.heap d b) {Q:Bool->Shared->Prop} (q:Q false s):wpAny (model prog w) A (ofAClassStatement 8 (.ref b)) Q E s:=by
 obtain⟨g,dp,as,r⟩:=h
 exact DY d g 8 _ _ _ _ _ _ r dp q
theorem QX {d:PyData} {b:Addr} (hb:(bu prog w).is s.heap d b) {ys:List Value} (hy:∀y∈ys,∃e c,y=Value.ref c/\(bu prog w).is s.heap e c) {Q:Bool->Shared->Prop} (q:Q false s) :
  wpAny (model prog w) A (searchCouldBeSeen (.ref b) ys) Q E s:=by
 unfold searchCouldBeSeen
 refine aN ?_
 refine CQ _ (fun rest r s'=>r.1=none/\s'=s/\∀y∈rest,y∈ys) _ ?_ ?_ _ _ ⟨rfl,rfl,fun y h=>h⟩
 ·rintro v rest r s' ⟨hr,rfl,hall⟩
  obtain⟨e,c,rfl,hc⟩:=hy v (hall v jo)
  dsimp only
  by_cases z:(b==c)=true
  ·rw[aM (by rw[z]; rfl)]
   exact bK ⟨rfl,rfl,fun y h=>hall y (il _ h)⟩
  ·rw[aK (by simp only[Bool.not_eq_true] at z; rw[z]; exact mO)]
   try refine aN (bK ?_)
   refine aN ((bu prog w).quiet hb ?_)
   simp only[zM,jn,if_false]
   try refine aN (bK ?_)
   refine aN ((bu prog w).quiet hc ?_)
   simp only[zM,jn,if_false]
   try refine aN (bK ?_)
   refine aN (nest_cls hb ?_)
   simp only[jn,if_false]
   try refine aN (bK ?_)
   refine aN (nest_cls hc ?_)
   simp only[jn,if_false]
   try refine aN (bK ?_)
   exact bK ⟨rfl,rfl,fun y h=>hall y (il _ h)⟩
 ·rintro⟨r1,r2⟩ s' ⟨hr,rfl,_⟩
  simp only at hr
  subst hr
  exact bK q
def Xg (x:PyData×Addr):Int×Value:=(bC x.1,.ref x.2)
structure Lz (h:Heap) (a:Addr) (o:Obj) (es:Array (Int×Value)) (ep:Nat) (t:SetTable) (xs:List (PyData×Addr)):Prop where
 get:h.get? a=some o
 ex:o.ExactSet
 dt:o.data=.set es ep t
 es:es.toList=xs.map Xg
 ti:Lj t (xs.map fun x=>bC x.1)
 nd:(xs.map (·.1)).Nodup
theorem Lz.size {h:Heap} {a:Addr} {o:Obj} {es:Array (Int×Value)} {ep:Nat} {t:SetTable} {xs:List (PyData×Addr)} (S:Lz h a o es ep t xs):es.size=xs.length:=by
 rw[<- lQ,S.es,bR]
theorem Lz.fits {h:Heap} {a:Addr} {o:Obj} {es:Array (Int×Value)} {ep:Nat} {t:SetTable} {xs:List (PyData×Addr)} (S:Lz h a o es ep t xs):t.fits es.size=true:=by
 have:=S.ti.fits
 rw[bR] at this
 rw[S.size]; exact this
theorem Lz.at {h:Heap} {a:Addr} {o:Obj} {es:Array (Int×Value)} {ep:Nat} {t:SetTable} {xs:List (PyData×Addr)} (S:Lz h a o es ep t xs) (i:Nat):es[i]?=xs[i]?.map Xg:=by
 rw[<- Cj,S.es,g8]
theorem t_ (m:Nat) (h:Int) (n n':Nat):(fQ m n' (fQ m n (jmp m (bits h % (m+1)) (bits h)))).j=way m h (n+n'):=by unfold way; rw[lB]
theorem xP {a:Addr} {o:Obj} {es:Array (Int×Value)} {ep:Nat} {t:SetTable} {xs:List (PyData×Addr)} {d:PyData} {b:Addr} {adding:Bool} (hr:(bu prog w).room A) (S:Lz s.heap a o es ep t xs) (hk:∀x∈xs,(bu prog w).is s.heap x.1 x.2) (hb:(bu prog w).is s.heap d b) {Q:SetFound->Shared->Prop}
  (h1:d∈xs.map (·.1)->∀r:Option Nat,(adding=false->r.isSome=true)->Q (.there r) s)
  (h2:d∉xs.map (·.1)->∀j,j<=t.mask->(∀i:Nat,t.place[i]?≠some j)->Path t.mask (fun y=>∃i:Nat,t.place[i]?=some y) (bC d) j->Q (.free j false) s) :
  wpAny (model prog w) A (setSearch a (.ref b) (bC d) adding) Q E s:=by
 have T:=S.ti
 obtain⟨M,m1,m2,m3,m4⟩:=T.first (ug t (bC d))
 rw[xW] at m2 m3 m4
 have m2:∀n,n<M->∃i:Nat,t.place[i]?=some (way t.mask (bC d) n)/\t.slot (way t.mask (bC d) n)=.live i:=m2
 have m3:∀i:Nat,t.place[i]?≠some (way t.mask (bC d) M):=m3
 have m4:t.slot (way t.mask (bC d) M)=.empty:=m4
 have hM:M<50000:=by
  obtain⟨k,_,k2,k3⟩:=T.pw
  have:2 ^ k<=2 ^ 12:=J4 (by decide) k2
  unfold turns at m1
  omega
 have key:∀(fuel n:Nat) (stand:Option Probe),n<=M->M-n<fuel->stand.getD (t.probeStart (bC d))=fQ t.mask n (jmp t.mask (bits (bC d) % (t.mask+1)) (bits (bC d))) ->
   (∀(n' i:Nat),n'<n->t.place[i]?=some (way t.mask (bC d) n')->∀x:PyData×Addr,xs[i]?=some x->x.1≠d)->wpAny (model prog w) A (setSearchFrom a (.ref b) (bC d) adding fuel stand) Q E s:=by
  intro fuel
  induction fuel with
  | zero=>intro n stand _ h; omega
  | succ fuel ih=>
   intro n stand hn hf est U_
   unfold setSearchFrom
   refine aN (JX S.get S.dt S.fits ?_)
   dsimp only
   rw[T.odd]
   simp only[jn,if_false]
   rw[est]
   obtain⟨n1,q1,q2,q3⟩:=Dv (P:=fun c=>M<=n+c\/∃i:Nat,t.place[i]?=some (way t.mask (bC d) (n+c))/\∃x,xs[i]?=some x/\bC x.1=bC d) (M-n) (.inl (by omega))
   have wp:WP t.mask (fQ t.mask n (jmp t.mask (bits (bC d) % (t.mask+1)) (bits (bC d)))):=by rw[<- xW]; exact(ug t (bC d)).fQ n
   have live:∀n',n'<n1->∃i,t.slot (fQ t.mask n' (fQ t.mask n (jmp t.mask (bits (bC d) % (t.mask+1)) (bits (bC d))))).j=.live i/\(((es[i]?.map (·.1)).getD 0)==bC d)=false:=fun n' hn'=>by
    have:=q3 n' hn'
    have hlt:n+n'<M:=by
     rcases Nat.lt_or_ge (n+n') M with z | z
     ·exact z
     ·exact absurd (.inl z) this
    obtain⟨i,i1,i2⟩:=m2 _ hlt
    refine⟨i,by rw[t_]; exact i2,?_⟩
    have hil:i<xs.length:=by
     have:=(xf.mp i1).1
     rw[T.sz,bR] at this
     exact this
    rw[S.at,eV hil]
    show(bC xs[i].1==bC d)=false
    rw[beq_eq_false_iff_ne]
    intro z
    exact this (.inr ⟨i,i1,xs[i],eV hil,z⟩)
   by_cases c:M<=n+n1
   ·have eM:n+n1=M:=by omega
    have he:t.slot (fQ t.mask n1 (fQ t.mask n (jmp t.mask (bits (bC d) % (t.mask+1)) (bits (bC d))))).j=.empty:=by rw[t_,eM]; exact m4
    erw [De (hashAt:=fun i=>(es[i]?.map (·.1)).getD 0) wp (by omega) live he]
    dsimp only
    rw[t_,eM]
    refine bK (h2 ?_ _ ?_ m3 ⟨M,rfl,fun n' hn'=>let ⟨i,z,_⟩:=m2 n' hn'; ⟨i,z⟩⟩)
    ·intro hd
     obtain⟨x,hx,rfl⟩:=g_.mp hd
     obtain⟨i,hi⟩:=Cm.mp hx
     have hil:i<xs.length:=(fK.mp hi).1
     have hip:i<t.place.size:=by rw[T.sz,bR]; exact hil
     have ep:=Cr hip
     obtain⟨ni,e1,e2⟩:=T.pa i (bC x.1) _ (by rw[g8,hi]; rfl) ep
     have hlt:ni<M:=by
      rcases Nat.lt_trichotomy ni M with z | z | z
      ·exact z
      ·exact absurd (by rw[<- z,e1]; exact ep) (m3 i)
      ·obtain⟨i',z'⟩:=e2 M z; exact absurd z' (m3 i')
     rw[<- e1] at ep
     by_cases d1:ni<n
     ·exact U_ ni i d1 ep x hi rfl
     ·refine q3 (ni-n) (by omega) (.inr ⟨i,by rw[show n+(ni-n)=ni by omega]; exact ep,x,hi,rfl⟩)
    ·have:=((ug t (bC d)).fQ M).le
     exact this
   ·rcases q2 with z | ⟨i,i1,x,i2,i3⟩
    ·exact absurd z c
    ·have i4:=xX T.ri i1
     have hc:t.slot (fQ t.mask n1 (fQ t.mask n (jmp t.mask (bits (bC d) % (t.mask+1)) (bits (bC d))))).j=.live i:=by rw[t_]; exact i4
     have hh:(fun i=>(es[i]?.map (·.1)).getD 0) i=bC d:=by
      show(es[i]?.map (·.1)).getD 0=bC d
      rw[S.at,i2]; exact i3
     erw [Fz (hashAt:=fun i=>(es[i]?.map (·.1)).getD 0) (by omega) live hc hh]
     dsimp only
     have hx:=jW i2
     have ei:es[i]?=some (bC x.1,Value.ref x.2):=by rw[S.at,i2]; rfl
     have tail:wpAny (model prog w) A (do
       let some (_,y):=es[i]? | unsupported "internal:set-entry"
       let equal <- holding [y] (eqBool y (.ref b))
       let (es',_,t') <- setState a
       if adding&&equal then return .there none
       let some same:=t'.sameMemory t.moves t.mask | unsupported "set.changed-during-lookup:is-the-new-block-at-the-old-address"
       let still <- match (if same then t'.slot (fQ t.mask n1 (fQ t.mask n (jmp t.mask (bits (bC d) % (t.mask+1)) (bits (bC d))))).j else .empty) with
        | .live i'=>match es'[i']? with
         | some (_,y')=>do pure (if <- isSame y' y then some i' else none)
         | none=>pure none
        | _=>pure none
       match still with
       | none=>rule "set.search.anew"; setSearchFrom a (.ref b) (bC d) adding fuel none
       | some i'=>if equal then return .there (some i') else setSearchFrom a (.ref b) (bC d) adding fuel (some (fQ t.mask (n1+1) (fQ t.mask n (jmp t.mask (bits (bC d) % (t.mask+1)) (bits (bC d))))))) Q E s:=by
      rw[ei]
      dsimp only
      refine aN (oO ((bu prog w).eqBool hr (hk x hx) hb ?_))
      refine aN (JX S.get S.dt S.fits ?_)
      dsimp only
      have sm:t.sameMemory t.moves t.mask=some true:=by unfold SetTable.sameMemory; simp
      rw[sm,hc]
      dsimp only
      simp only[if_true]
      rw[ei]
      dsimp only
      have isS:∀{Q':Bool->Shared->Prop},Q' true s->wpAny (model prog w) A (isSame (Value.ref x.2) (Value.ref x.2)) Q' E s:=fun h=>by
       unfold isSame
       simp only[beq_self_eq_true,if_true]
       exact bK h
      by_cases e:x.1=d
      ·rw[iC e]
       have hm:d∈xs.map (·.1):=e▸List.mem_map_of_mem hx
       cases adding with
       | true=>
        simp only[Bool.and_self,if_true]
        exact bK (h1 hm none (fun z=>nomatch z))
       | false=>
        simp only[Bool.false_and,jn,if_false]
        refine aN (isS (aN (bK ?_)))
        simp only[if_true]
        exact bK (h1 hm _ fun _=>rfl)
      ·rw[fH e]
       simp only[Bool.and_false,jn,if_false]
       refine aN (isS (aN (bK ?_)))
       simp only[if_true,jn,if_false]
       refine ih (n+n1+1) _ (by omega) (by omega) ?_ ?_
       ·show fQ t.mask (n1+1) _=_
        rw[<- lB,B_]
       ·intro n' i' hn' hi' x' hx'
        by_cases c1:n'<n
        ·exact U_ n' i' c1 hi' x' hx'
        ·by_cases c2:n'=n+n1
         ·subst c2
          have:=T.ri.inj hi' i1
          subst this
          rw[i2] at hx'; cases hx'
          exact e
         ·intro z
          exact q3 (n'-n) (by omega) (.inr ⟨i',by rw[show n+(n'-n)=n' by omega]; exact hi',x',hx',by rw[z]⟩)
     by_cases Wx:t.led=true
     ·rw[Wx]
      simp only[zM,jn,if_false]
      exact tail
     ·simp only[Bool.not_eq_true] at Wx
      rw[Wx]
      simp only[Bool.not_false,if_true]
      refine aN (QX hb (fun y hy=>?_) ?_)
      ·obtain⟨e,he,rfl⟩:=g_.mp hy
       rw[Array.mem_toList_iff] at he
       have he:=(Array.mem_filter.mp he).1
       rw[<- Array.mem_toList_iff,S.es] at he
       obtain⟨x',hx',rfl⟩:=g_.mp he
       exact⟨x'.1,x'.2,rfl,hk x' hx'⟩
      ·simp only[jn,if_false]
       first | exact tail | exact aN (bK tail)
 unfold setSearch
 exact key 100000 0 none (e_ _) (by omega) rfl (fun n' i h=>by omega)
end
end L2
namespace L2
open PySem PySem.Spec PyProof.Rows
open SetTable (Probe runEnd leap turns bits)
section
variable {prog:Program} {w:World} {A:Around} {E:Value->Shared->Prop} {s:Shared}
theorem QZ {a:Addr} {o:Obj} {es:Array (Int×Value)} {ep:Nat} {t:SetTable} {xs:List (PyData×Addr)} {d:PyData} {b:Addr} (hr:(bu prog w).room A) (S:Lz s.heap a o es ep t xs) (hk:∀x∈xs,(bu prog w).is s.heap x.1 x.2) (hb:(bu prog w).is s.heap d b) {Q:Option Nat->Shared->Prop}
  (h:∀r:Option Nat,(r.isSome=true↔d∈xs.map (·.1))->Q r s):wpAny (model prog w) A (setFind a (.ref b) (bC d)) Q E s:=by
 unfold setFind setFindIn
 refine aN (JX S.get S.dt S.fits ?_)
 dsimp only
 have bs:byScan (.ref b) es=false:=rfl
 rw[bs]
 simp only[jn,if_false]
 refine aN (xP hr S hk hb (fun hd r hr'=>?_) (fun hd j _ _ _=>?_))
 ·exact bK (h r ⟨fun _=>hd,fun _=>hr' rfl⟩)
 ·exact bK (h none ⟨fun z=>(nomatch z),fun z=>absurd z hd⟩)
def Ju (prog:Program) (w:World) (d:PyData):Prop:=∀(n:Nat) (A:Around) (E:Value->Shared->Prop) (s:Shared) (v:Value) (as:List Addr) (Q:Bool->Shared->Prop),Reads s.heap v d as->d.depth<=n->Q true s ->
 wpAny (model prog w) A (hashByValue n v) Q E s
theorem S8 {ds:List PyData} (ih:∀d∈ds,Ju prog w d):Ju prog w (.tuple ds):=by
 intro n A E s v as Q r hn h
 have hn:PyData.depthAll ds+1<=n:=hn
 obtain⟨m,rfl⟩:∃m,n=m+1:=⟨n-1,by omega⟩
 cases r with
 | @tuple a o items nn _ _ ho hc hd hi=>
 have hT:s.TypeIs (.ref a) "tuple" := ⟨o,ho,hc⟩
 unfold hashByValue
 refine aN (yx hT F.slot_tuple_hash.lookup ?_)
 show wpAny _ _ (seqItems? (.ref a) >>= _) _ _ s
 refine aN (oU ho hd ?_)
 refine aN ?_
 show wpAny _ _ (forIn items _ _) _ _ s
 rw[<- Hx]
 refine CQ _ (fun rest r s'=>r.1=none/\s'=s/\∃left bs,(∀d∈left,d∈ds)/\ReadsAll s.heap rest left bs) _ ?_ ?_ _ _ ⟨rfl,rfl,ds,_,fun d h=>h,hi⟩
 ·rintro v rest r s' ⟨hr,rfl,left,bs,hall,hl⟩
  cases hl with
  | @cons _ _ k ks' as1 Xv h1 hl'=>
  have hk:=hall k jo
  have:=j8 hk
  refine aN (ih k hk m _ _ _ _ _ _ h1 (by omega) ?_)
  simp only[zM,jn,if_false]
  exact bK ⟨rfl,rfl,ks',Xv,fun d h=>hall d (il _ h),hl'⟩
 ·rintro⟨r1,r2⟩ s' ⟨hr,rfl,_⟩
  simp only at hr
  subst hr
  exact bK h
mutual
theorem DN:∀d:PyData,oY d=true->Ju prog w d
 | .int i,_=>by
  intro n A E s v as Q r hu h
  cases r
  cases n <;> exact bK h
 | .tuple ds,h=>S8 (yJ ds (by simpa[oY] using h))
 | .none,h=>nomatch h
 | .bool _,h=>nomatch h
 | .str _,h=>nomatch h
 | .list _,h=>nomatch h
 | .dict _,h=>nomatch h
theorem yJ:∀ds:List PyData,d9 ds=true->∀d∈ds,Ju prog w d
 | [],_,d,hd=>by cases hd
 | x::ds,h,d,hd=>by
  have h':oY x=true/\d9 ds=true:=by simpa[d9] using h
  rcases b8.mp hd with e | e
  ·rw[e]; exact DN x h'.1
  ·exact yJ ds h'.2 d e
end
theorem ins_map {α β:Type} (f:α->β) (xs:List α) (p:Nat) (x:α):(xs.take p++x::xs.drop p).map f=(xs.map f).take p++f x::(xs.map f).drop p:=by
 rw[jm,kW,List.map_take,List.map_drop]
theorem KZ {α:Type} {xs:List α} {p:Nat} {x:α} (h:xs.Nodup) (hx:x∉xs):(xs.take p++x::xs.drop p).Nodup:=by
 have e:(xs.take p++x::xs.drop p).Perm (x::xs):=by
  refine List.perm_middle.trans ?_
  rw[List.take_append_drop]
 exact e.nodup_iff.mpr (Ft.mpr ⟨hx,h⟩)
theorem Oj {xs:List (PyData×Addr)} {order:List Nat} (nd:order.Nodup) (hl:order.length=xs.length) (lt:∀l∈order,l<xs.length) (all:∀l,l<xs.length->l∈order) :
  ∃ys:List (PyData×Addr),(∀f:(PyData×Addr)->Int×Value,order.filterMap ((xs.map f)[·]?)=ys.map f)/\(∀f:(PyData×Addr)->Int,order.filterMap ((xs.map f)[·]?)=ys.map f)/\ys.length=xs.length/\ys.Perm xs:=by
 have sm:∀l∈order,(xs[l]?).isSome=true:=fun l h=>by rw[eV (lt l h)]; rfl
 have e:∀{γ:Type} (f:(PyData×Addr)->γ),order.filterMap ((xs.map f)[·]?)=(order.filterMap (xs[·]?)).map f:=fun f=>by
  rw[List.map_filterMap]
  congr 1
  funext l
  rw[g8]
 have hp:order.Perm (List.range xs.length):=by
  refine(List.perm_ext_iff_of_nodup nd List.nodup_range).mpr fun l=>?_
  rw[zN]
  exact⟨lt l,all l⟩
 refine⟨order.filterMap (xs[·]?),e,e,by rw[Gm sm,hl],?_⟩
 have:=hp.filterMap (xs[·]?)
 rw[List.filterMap_getElem?_range_length] at this
 exact this
theorem Mh {a:Addr} {o:Obj} {es:Array (Int×Value)} {ep:Nat} {t:SetTable} {xs:List (PyData×Addr)} (ho:s.heap.get? a=some o) (hx:o.ExactSet) (hd:o.data=.set es ep t) (hes:es.toList=xs.map Xg) (hf:t.fits es.size=true) (nd:(xs.map (·.1)).Nodup) (h1:1<=xs.length) (h2:xs.length<=1000) {Q:Unit->Shared->Prop}
  (q:∀h' o' es' ep' t' ys,Heap.SameBut a s.heap h'->Lz h' a o' es' ep' t' ys->ys.Perm xs->Q () { s with heap:=h' }):wpAny (model prog w) A (setRelay a (SetTable.grown xs.length)) Q E s:=by
 have sz:es.size=xs.length:=by rw[<- lQ,hes,bR]
 have hsz:(es.map (·.1)).size=xs.length:=by rw[Array.size_map,sz]
 have hl:(es.map (·.1)).toList=xs.map fun x=>bC x.1:=by rw[Array.toList_map,hes,List.map_map]; rfl
 obtain⟨t',order,g1,g2,g3,g4,g6,g5,g7⟩:=JT (t:=t) (es.map (·.1)) (by omega) (by omega)
 rw[hsz] at g1 g2 g3 g4 g7
 obtain⟨ys,y1,y2,y3,y4⟩:=Oj g6 g2 g3 g4
 unfold setRelay
 refine aN (JX ho hd hf ?_)
 dsimp only
 have zl:(4096:Nat)<=sizeLine:=by rw[sizeLine_eq]; decide
 rw[aK (by omega)]
 have e1:(order.filterMap (es[·]?)).toList=ys.map Xg:=by
  rw[Array.toList_filterMap,<- y1 Xg]
  congr 1
  funext l
  rw[<- hes,Cj]
 have tail:wpAny (model prog w) A (storeSet a (order.filterMap (es[·]?)) t') Q E s:=by
  have hz:(order.filterMap (es[·]?)).size<=sizeLine:=by
   rw[<- lQ,e1,bR,y3]; omega
  refine wpAny_storeSet_of ho hd ?_ hz
  have hg:(s.heap.update a (Obj.putSet (order.filterMap (es[·]?)) t')).get? a=some { o with data:=.set (order.filterMap (es[·]?)) (ep+1) t' }:=by
   have:=w6 (Obj.putSet (order.filterMap (es[·]?)) t') ho (by rw[putSet_of _ t' hd]; rfl)
   rw[putSet_of _ t' hd] at this; exact this
  refine q _ _ _ _ t' ys (Hz s.heap a _) ⟨hg,hx,rfl,e1,?_,?_⟩ y4
  ·rw[hl,y2 fun x=>bC x.1] at g5
   exact g5
  ·exact(y4.map _).nodup_iff.mpr nd
 have es2:(order.filterMap (es[·]?)).size=es.size:=by rw[<- lQ,e1,bR,y3,sz]
 rw[g1]
 refine aN ?_
 show wpAny _ _ (if((order.filterMap (es[·]?)).size != es.size)=true then(unsupported "internal:set-table-lost-an-element" >>= fun _=>pure (order.filterMap (es[·]?),t')) else pure (order.filterMap (es[·]?),t')) _ _ _
 rw[aK (by rw[es2]; simp)]
 exact bK tail
theorem Xz.fits {t:SetTable} {hs:List Int} (T:Xz t hs):t.fits hs.length=true:=by
 have h1:=T.sz
 have h2:=T.fl
 simp only[SetTable.fits,SetTable.fill,T.dm,h1,wW,beq_iff_eq,decide_eq_true_eq]
 refine⟨trivial,?_⟩
 show hs.length+0<=t.mask
 omega
theorem Vp {a:Addr} {o:Obj} {es:Array (Int×Value)} {ep:Nat} {t:SetTable} {xs:List (PyData×Addr)} {d:PyData} {b:Addr} (hr:(bu prog w).room A) (S:Lz s.heap a o es ep t xs) (hk:∀x∈xs,(bu prog w).is s.heap x.1 x.2) (hb:(bu prog w).is s.heap d b) (hl:xs.length<1000) {Q:Bool->Shared->Prop}
  (q:∀r h' o' es' ep' t' ys,Heap.SameBut a s.heap h'->Lz h' a o' es' ep' t' ys->(d∈xs.map (·.1)/\ys=xs\/d∉xs.map (·.1)/\ys.Perm ((d,b)::xs))->Q r { s with heap:=h' }) :
  wpAny (model prog w) A (setAddHashed a (.ref b) (bC d)) Q E s:=by
 unfold setAddHashed setAddHashedIn
 refine oO (aN (JX S.get S.dt S.fits ?_))
 dsimp only
 have bs:byScan (.ref b) es=false:=rfl
 rw[bs]
 simp only[jn,if_false]
 refine aN (xP hr S hk hb (fun hd r _=>?_) (fun hd j hj hn hp=>?_))
 ·have e:s={ s with heap:=s.heap }:=by cases s; rfl
  have:=q false s.heap o es ep t xs (Heap.SameBut.refl a s.heap) S (.inl ⟨hd,rfl⟩)
  exact bK (by rw[e]; exact this)
 ·dsimp only
  refine aN (JX S.get S.dt S.fits ?_)
  dsimp only
  obtain⟨J,p1,p2,p3⟩:=S.ti.put hj hn hp
  generalize (t.put j).1=t1 at J p2 p3 ⊢
  generalize (t.put j).2=pp at J p1 ⊢
  rw[bR] at p1
  have tail:wpAny (model prog w) A (storeSet a (SetTable.insertAt es pp (bC d,.ref b)) t1 >>= fun _=>if(!false&&t1.tooFull)=true then(setRelay a (SetTable.grown (es.size+1)) >>= fun _=>pure true) else pure true) Q E s:=by
   have eL:(SetTable.insertAt es pp (bC d,Value.ref b)).toList=(xs.take pp++(d,b)::xs.drop pp).map Xg:=by
    rw[SetTable.toList_insertAt,S.es,ins_map]; rfl
   have hn':(xs.take pp++(d,b)::xs.drop pp).length=xs.length+1:=by
    simp only[gD,nW,nU,Fw]; omega
   have hz:(SetTable.insertAt es pp (bC d,Value.ref b)).size<=sizeLine:=by
    have zl:(4096:Nat)<=sizeLine:=by rw[sizeLine_eq]; decide
    rw[<- lQ,eL,bR,hn']; omega
   refine aN (wpAny_storeSet_of S.get S.dt ?_ hz)
   have hg:(s.heap.update a (Obj.putSet (SetTable.insertAt es pp (bC d,Value.ref b)) t1)).get? a=some { o with data:=.set (SetTable.insertAt es pp (bC d,Value.ref b)) (ep+1) t1 }:=by
    have:=w6 (Obj.putSet (SetTable.insertAt es pp (bC d,Value.ref b)) t1) S.get (by rw[putSet_of _ t1 S.dt]; rfl)
    rw[putSet_of _ t1 S.dt] at this; exact this
   have sb:=Hz s.heap a (Obj.putSet (SetTable.insertAt es pp (bC d,Value.ref b)) t1)
   generalize s.heap.update a (Obj.putSet (SetTable.insertAt es pp (bC d,Value.ref b)) t1)=h1 at hg sb ⊢
   have J':Xz t1 ((xs.take pp++(d,b)::xs.drop pp).map fun x=>bC x.1):=by rw[ins_map]; exact J
   have Oz:((xs.take pp++(d,b)::xs.drop pp).map (·.1)).Nodup:=by rw[ins_map]; exact KZ S.nd hd
   have pm:(xs.take pp++(d,b)::xs.drop pp).Perm ((d,b)::xs):=by
    refine List.perm_middle.trans ?_
    rw[List.take_append_drop]
   cases ef:t1.tooFull with
   | false=>
    simp only[Bool.not_false,Bool.and_false,jn,if_false]
    exact bK (q true h1 _ _ _ _ _ sb ⟨hg,S.ex,rfl,eL,J'.ti ef,Oz⟩ (.inr ⟨hd,pm⟩))
   | true=>
    simp only[Bool.not_false,Bool.and_self,if_true]
    have esz:es.size+1=(xs.take pp++(d,b)::xs.drop pp).length:=by rw[hn',S.size]
    rw[esz]
    refine aN (Mh (s:={ s with heap:=h1 }) hg S.ex rfl eL ?_ Oz (by omega) (by omega) fun h' o' es' ep' t' ys sb' S' py=>?_)
    ·have:=J'.fits
     rw[bR] at this
     rw[<- lQ,eL,bR]
     exact this
    ·exact bK (q true h' _ _ _ _ ys (sb.trans sb') S' (.inr ⟨hd,py.trans pm⟩))
  cases epl:t1.plain with
  | false=>
   simp only[jn,if_false]
   refine aN (bK ?_)
   simp only[if_true]
   exact tail
  | true=>
   simp only[if_true]
   obtain⟨g,dp,as,r⟩:=hb
   refine aN (DN d g 8 _ _ _ _ _ _ r dp ?_)
   simp only[if_true]
   exact tail
end
def ZP (a:Addr) (xs:List (PyData×Addr)) (h:Heap):Prop:=∃o es ep t,Lz h a o es ep t xs
def Vf (a:Addr) (xs:List (PyData×Addr)):HO:=.ext (ZP a xs)
def gm (H:Hp) (a:Addr) (ks:List PyData):Prop:=∃xs,H a=some (Vf a xs)/\(∀d,d∈ks↔d∈xs.map (·.1))/\(∀x∈xs,oH x.1/\At H x.1 (.ref x.2))/\xs.length<=ks.length
theorem gm.keep {H H':Hp} {a:Addr} {ks:List PyData} (n:gm H a ks) (ha:H' a=H a) (k:∀b xs,H b=some (.tup xs)->H' b=some (.tup xs)):gm H' a ks:=by
 obtain⟨xs,e,m,r,l⟩:=n
 exact⟨xs,ha.trans e,m,fun x hx=>⟨(r x hx).1,At.tupS k _ _ (jb _ (r x hx).1.k).2.2 (r x hx).2⟩,l⟩
theorem gm.same {H H':Hp} {a:Addr} {ks:List PyData} (n:gm H a ks) (s:aC H H'):gm H' a ks:=by
 obtain⟨xs,e,r⟩:=id n
 exact n.keep ((s _ _ e).trans e.symm) fun b xs h=>s _ _ h
theorem gm.ext {H:Hp} {a:Addr} {ks:List PyData} (n:gm H a ks):∃φ,H a=some (.ext φ):=by
 obtain⟨xs,e,_⟩:=n
 exact⟨_,e⟩
theorem gm.aaH {H:Hp} {a p:Addr} {ks:List PyData} {ys:List V} {o:HO} (n:gm H a ks) (hp:H p=some (.lst ys)):gm (upd H p o) a ks:=by
 obtain⟨φ,e⟩:=n.ext
 have na:a≠p:=fun z=>by rw[z,hp] at e; cases e
 refine n.keep (aL na) fun b xs h=>?_
 have nb:b≠p:=fun z=>by rw[z,hp] at h; cases h
 rw[aL nb]; exact h
section
variable {X:Cx} {pins:List (Addr×Obj)} {σ:St} {H:Hp} {s:Shared} {a:Addr} {ks:List PyData}
theorem Ut {P:Program} {w:World} {H:Hp} {h:Heap} {xs:List (PyData×Addr)} (n:ZP a xs h):cL P w H h a (Vf a xs):=by
 obtain⟨o,es,ep,t,S⟩:=n
 exact⟨⟨o,es,ep,t,S⟩,⟨o,S.get⟩,fun h1' h2' ⟨o',es',ep',t',S'⟩ k=>⟨o',es',ep',t',k _ S'.get,S'.ex,S'.dt,S'.es,S'.ti,S'.nd⟩⟩
theorem M9 (I:Inv X pins σ H s) (n:gm H a ks):∃xs,H a=some (Vf a xs)/\(∀d,d∈ks↔d∈xs.map (·.1))/\(∀x∈xs,oH x.1/\At H x.1 (.ref x.2))/\xs.length<=ks.length/\ZP a xs s.heap/\∀x∈xs,(bu X.prog X.w).is s.heap x.1 x.2:=by
 obtain⟨xs,e,m,r,l⟩:=n
 obtain⟨p,_,_⟩:=(show cL X.prog X.w H s.heap a (Vf a xs) from I.hok a _ e)
 exact⟨xs,e,m,r,l,p,fun x hx=>qp I.hok (r x hx).1 (r x hx).2⟩
def fG (H:Hp) (a:Addr) (ks:List PyData) (d:PyData) (H':Hp):Prop:=(∃φ,H'=upd H a (.ext φ))/\gm H' a (ks++[d])
theorem fG.tup {H H':Hp} {a:Addr} {ks:List PyData} {d:PyData} (n:gm H a ks) (p:fG H a ks d H'):∀b xs,H b=some (.tup xs)->H' b=some (.tup xs):=fun b xs h=>by
 obtain⟨⟨φ,rfl⟩,_⟩:=p
 obtain⟨ψ,e⟩:=n.ext
 have nb:b≠a:=fun z=>by rw[z,e] at h; cases h
 rw[aL nb]; exact h
theorem fG.lst {H H':Hp} {a:Addr} {ks:List PyData} {d:PyData} (n:gm H a ks) (p:fG H a ks d H'):∀b xs,H b=some (.lst xs)->H' b=some (.lst xs):=fun b xs h=>by
 obtain⟨⟨φ,rfl⟩,_⟩:=p
 obtain⟨ψ,e⟩:=n.ext
 have nb:b≠a:=fun z=>by rw[z,e] at h; cases h
 rw[aL nb]; exact h
theorem fG.at {H H':Hp} {a:Addr} {ks:List PyData} {d e:PyData} {u:V} (n:gm H a ks) (p:fG H a ks d H') (h:qm e=true) (x:At H e u):At H' e u:=At.tupS (fG.tup n p) _ _ h x
theorem fG.same {H H':Hp} {a:Addr} {ks:List PyData} {d:PyData} {H0:Hp} (p:fG H a ks d H') (s:aC H0 H) (f:H0 a=none):aC H0 H':=by
 obtain⟨⟨φ,rfl⟩,_⟩:=p
 exact s.dw f
theorem qT (I:Inv X pins σ H s) (n:gm H a ks):s.TypeIs (.ref a) "set" /\ ∀b,Value.ref a=.ref b->∃ob,s.heap.get? b=some ob/\ob.dict=none:=by
 obtain⟨xs,e,m,r,l,⟨o,es,ep,t,S⟩,_⟩:=M9 I n
 exact⟨⟨o,S.get,S.ex.1⟩,fun b z=>by cases z; exact⟨o,S.get,S.ex.2.1⟩⟩
theorem Rg {A:Around} {E:Value->Shared->Prop} {b:Addr} {d:PyData} {Q:Option Nat->Shared->Prop} (hu:(bu X.prog X.w).room A) (I:Inv X pins σ H s) (n:gm H a ks) (ky:jj H d (.ref b)) (h:∀r:Option Nat,r.isSome=decide (d∈ks)->Q r s) :
  wpAny (model X.prog X.w) A (setFind a (.ref b) (bC d)) Q E s:=by
 obtain⟨xs,e,m,r,l,⟨o,es,ep,t,S⟩,hk⟩:=M9 I n
 refine QZ hu S hk (qp I.hok ky.1 ky.2) fun r hr=>h r ?_
 rw[<- m d] at hr
 by_cases z:d∈ks
 ·rw[iC z]; exact hr.mpr z
 ·rw[fH z,<- Bool.not_eq_true]; exact fun q=>z (hr.mp q)
end
end L2
namespace L2
open PySem PySem.Spec PyProof.Rows
section
variable {X:Cx} {pins:List (Addr×Obj)} {σ:St} {H:Hp} {s:Shared} {a:Addr} {ks:List PyData}
theorem M_ {A:Around} {E:Value->Shared->Prop} {Q:Value->Shared->Prop} {d:PyData} {y:V} {u:Value} (hu:A.units+64<cLine) (I:Inv X pins σ H s) (n:gm H a ks) (ky:jj H d y) (ry:RelV y u) (h:∀s',Inv X pins σ H s'->Q (.bool (!decide (d∈ks))) s') :
  wpAny (model X.prog X.w) A (compareOp .NotIn u (.ref a)) Q E s:=by
 obtain⟨b,rfl,rfl⟩:=ky.ref ry
 have hT:=(qT I n).1
 show wpAny _ _ (do return .bool (!(<- contains (.ref a) (.ref b)))) Q E s
 refine aN ?_
 unfold contains
 try with_reducible refine oO ?_
 refine aN (yx hT F.slot_set_contains.lookup ?_)
 show wpAny _ _ (if(some (Value.builtin "set.__contains__")==some Value.none)=true then _ else _) _ E s
 rw[aK (by rw[beq_builtin_none]; exact mO)]
 refine aN (wpAny_callSpecialUnlessNone?_slot (name:=Str.ofString "__contains__") hT F.slot_set_contains
  (uT F.slot_set_contains hT entry_set_contains ?_ (F.args_set_contains_2 _ _)))
 unfold Builtin.«frozenset.__contains__» Builtin.Frozenset.oneOther
 simp only[List.isEmpty_nil,bind_assoc]
 unfold Builtin.Frozenset.addrOf Builtin.Frozenset.withSetAsKey setContains
 refine aN (bK ?_)
 try dsimp only
 refine aN (bK ?_)
 try dsimp only
 refine aN (Fp ?_)
 refine oO ?_
 refine aN ((bu X.prog X.w).pyHash (nP hu) (qp I.hok ky.1 ky.2) ?_)
 have I':Inv X pins σ H { s with toks:=s.toks+(bu X.prog X.w).draws d }:=I.tok _
 refine aN (Rg (s:={ s with toks:=s.toks+(bu X.prog X.w).draws d }) (nP hu) I' n ky fun r hr=>?_)
 refine bK ?_
 show wpAny _ _ (ret (Value.bool r.isSome)) _ _ _
 rw[hr]
 exact bK ⟨_,rfl,JZ (bK (h _ I'))⟩
theorem M8 {h':Heap} {t':Nat} {xs ys:List (PyData×Addr)} {ks':List PyData} (I:Inv X pins σ H s) (e:H a=some (Vf a xs)) (hs:Heap.SameBut a s.heap h') (n:ZP a ys h') (m:∀d,d∈ks'↔d∈ys.map (·.1)) (r:∀x∈ys,oH x.1/\At H x.1 (.ref x.2)) (l:ys.length<=ks'.length) :
  Inv X pins σ (upd H a (Vf a ys)) { s with heap:=h',toks:=t' }/\gm (upd H a (Vf a ys)) a ks':=by
 obtain⟨o,es,ep,t,S⟩:=id n
 refine⟨I.write (x:=a) (e:=a) (by rw[e]; exact True.intro) (.inl rfl) (fun b q hb z=>(hs.2 b hb).trans z) ⟨o,S.get⟩ (Ut n),ys,az,m,fun x hx=>⟨(r x hx).1,At.tupS (fun b xs hb=>?_) _ _ (jb _ (r x hx).1.k).2.2 (r x hx).2⟩,l⟩
 have nb:b≠a:=fun z=>by rw[z,e] at hb; cases hb
 rw[aL nb]; exact hb
theorem VF {A:Around} {E:Value->Shared->Prop} {Q:Value->Shared->Prop} {d:PyData} {y:V} {u:Value} (hu:A.units+64<cLine) (I:Inv X pins σ H s) (n:gm H a ks) (hl:ks.length<1000) (ky:jj H d y) (ry:RelV y u) (h:∀H' s',fG H a ks d H'->Inv X pins σ H' s'->Q .none s') :
  wpAny (model X.prog X.w) A (call (.builtin "set.add") [.ref a,u]) Q E s:=by
 obtain⟨b,rfl,rfl⟩:=ky.ref ry
 have hT:=(qT I n).1
 refine uT F.slot_set_add hT F.entry_set_add ?_ (F.args_set_add_2 _ _)
 unfold Builtin.«set.add» Builtin.Frozenset.oneOther
 simp only[List.isEmpty_nil,bind_assoc]
 unfold Builtin.Frozenset.addrOf setAdd
 refine aN (bK ?_)
 try dsimp only
 refine aN (bK ?_)
 try dsimp only
 refine aN ?_
 refine oO ?_
 refine aN ((bu X.prog X.w).pyHash (nP hu) (qp I.hok ky.1 ky.2) ?_)
 have I':Inv X pins σ H { s with toks:=s.toks+(bu X.prog X.w).draws d }:=I.tok _
 obtain⟨xs,e,m,r,l,⟨o,es,ep,t,S⟩,hk⟩:=M9 I' n
 refine Vp (s:={ s with toks:=s.toks+(bu X.prog X.w).draws d }) (nP hu) S hk (qp I'.hok ky.1 ky.2) (by omega) fun rr h' o' es' ep' t' ys sb S' hy=>?_
 have fin:(∀z,z∈ks++[d]↔z∈ys.map (·.1))/\(∀x∈ys,oH x.1/\At H x.1 (.ref x.2))/\ys.length<=(ks++[d]).length:=by
  rw[gD]
  rcases hy with⟨hd,rfl⟩ | ⟨hd,pm⟩
  ·refine⟨fun z=>?_,r,by omega⟩
   rw[<- m z,oV,fj]
   exact⟨fun q=>q.elim id fun q=>by rw[q]; exact(m d).mpr hd,.inl⟩
  ·refine⟨fun z=>?_,fun x hx=>?_,?_⟩
   ·rw[(pm.map (·.1)).mem_iff,kW,b8,oV,fj,m z]
    exact⟨fun q=>q.elim .inr .inl,fun q=>q.elim .inr .inl⟩
   ·rcases b8.mp (pm.mem_iff.mp hx) with rfl | hx
    ·exact⟨ky.1,ky.2⟩
    ·exact r x hx
   ·rw[pm.length_eq,nU]; show xs.length+1<=ks.length+1; omega
 obtain⟨I2,n2⟩:=M8 (t':=s.toks+(bu X.prog X.w).draws d) I' e sb ⟨o',es',ep',t',S'⟩ fin.1 fin.2.1 fin.2.2
 show wpAny _ _ (ret Value.none) _ _ _
 exact bK ⟨_,rfl,h _ _ ⟨⟨_,rfl⟩,n2⟩ I2⟩
end
section
variable {X:Cx}
theorem Kc (hu:X.A.units+64<cLine):oG X (compareOp .NotIn) (fun x y H Q=>∃a ks d,y=.ref a/\gm H a ks/\jj H d x/\Q (.bl (!decide (d∈ks))) H):=by
 refine .mk ?_
 intro pins s σ H x y v u Q I rx ry h
 obtain⟨a,ks,d,rfl,n,k,q⟩:=h
 cases ry
 exact M_ hu I n k rx fun s' I'=>⟨.bl _,H,I',rfl,q⟩
theorem Mv (led:Bool):Lj (.fresh 0 0 led) []:=by
 refine⟨rfl,fun a b x y h=>?_,rfl,fun i j h=>?_,⟨3,by decide,by decide,rfl⟩,by show 5*0<3*7; decide,fun i h j z=>by simp at z⟩
 ·have h:(#[]:Array Nat)[a]?=some x:=h
  simp at h
 ·have h:(#[]:Array Nat)[i]?=some j:=h
  simp at h
def Ux:List V->Hp->VK->Prop:=fun vs H Q=>vs=[]/\∀p H',H p=none->aC H H'->gm H' p []->(∃φ,H'=upd H p (.ext φ))->Q (.ref p) H'
theorem Ld:dI X (.type "set") Ux:=by
 refine .mk ?_
 intro pins s σ H vs us Q I r h
 obtain⟨rfl,q⟩:=h
 cases r
 refine call_set_0 fun led=>?_
 have hf:=I.hok.fresh (cW s.heap.objs.size)
 have n:ZP s.heap.objs.size [] (s.heap.push { cls:=.type "set",dict:=none,data:=.set #[] 0 (.fresh 0 0 led) }):=⟨_,#[],0,_,dX _ rfl,⟨rfl,rfl,rfl⟩,rfl,rfl,Mv led,List.nodup_nil⟩
 exact⟨.ref s.heap.objs.size,_,I.laid (a:=s.heap.objs.size) (o:=Vf s.heap.objs.size []) (t':=s.toks) (fun _ _ q=>gb _ q) (cW _) (Ut n),rfl,q _ _ hf (aO hf _) ⟨[],az,fun d=>by simp,fun x hx=>(nomatch hx),cW _⟩ ⟨_,rfl⟩⟩
def Uh (to:TE) (t:TA):TE:=fun σ H Q=>to σ H fun x H1=>(∃a ks,x=.ref a/\gm H1 a ks)/\t σ H1 fun vs H2=>∃a ks y d,x=.ref a/\vs=[y]/\gm H2 a ks/\ks.length<1000/\jj H2 d y/\∀H3,fG H2 a ks d H3->Q .non H3
theorem HW (hu:X.A.units+64<cLine) {o e:Expr} {to:TE} {t:TA} {apos cpos:Pos} (ho:PE X o to) (ha:PA X [e] t)
  (hbase:attributeBase o "add" X.env (eval o X.env)=eval o X.env:=by rfl)
  (hfew:((backTo cpos (starEach [e] X.env)).all (fun x=>!x.1)&&(backToKw cpos (keywordEach [] X.env)).all (fun x=>x.1.isSome)
   && decide (([e]:List Expr).length+([]:List Keyword).length+(if([]:List Keyword).isEmpty then 0 else 1)<30))=true:=by rfl)
  (hline:(apos.endLine==cpos.line)=true:=by rfl) (hs:starEach [e] X.env=(false,eval e X.env)::starEach [] X.env:=by rfl) (hplain:(backTo cpos (starEach [] X.env)).any (·.1)=false:=by rfl) :
  PE X (.Call (.Attribute o "add" apos) [e] [] cpos) (Uh to t):=by
 refine .mk ?_
 intro pins s σ H Q I h
 refine wpAny_Call_method_late hbase hfew hline rfl (cB (ho pins s σ H _ I h) fun v s1 qx=>?_)
 obtain⟨x,H1,I1,r1,⟨a,ks,ex,n⟩,q1⟩:=qx
 subst ex
 cases r1
 obtain⟨h1,h2⟩:=qT I1 n
 refine⟨"set","set.add",F.plainAttrs_set,F.slot_set_add,F.type_set_add,h1,h2,?_⟩
 have hA:=ha cpos pins s1 σ H1 _ I1 q1
 rw[hs] at hA ⊢
 refine Calls.callWith_builtin (by show(false || (backTo cpos (starEach [] X.env)).any (·.1))=false; rw[hplain] <;> rfl) (Calls.evalArgs_plain ?_)
 refine cB hA fun us s2 qx=>?_
 obtain⟨vs,H2,I2,r2,a',ks',y,d,e1,e2,n2,hl,ky,q2⟩:=qx
 cases e1
 subst e2
 obtain⟨u,rfl,ru⟩:=r2.one
 exact VF hu I2 n2 hl ky ru fun H' s' p I'=>⟨.non,H',I',rfl,q2 H' p⟩
end
section
variable {P:Program} {w:World} {K:PySem.W.Frag} {mg:Str->Option Value} {base:Heap} {N:List Str} {qual:Str} {scope:Scope} {f:Addr} {cd:Value} {A:Around} {outer:List Env} {s0:Shared} {H0:Hp} {E:XK}
theorem J_ {pins:List (Addr×Obj)} {σ:St} {H1:Hp} {s1 s':Shared} {e:Value} {E':XK} (I:Inv (fO (lR P w) P w K mg base N qual scope f cd A outer s0 H0 E) pins σ H1 s1) (c:lR P w (envOfC qual scope s0.heap.objs.size f cd::outer) H1 s1 E' e s')
  (hE:∀cls H2,E' cls none H2->∀H3,(aC H1 H2->aC H1 H3)->E cls none H3):(fO (lR P w) P w K mg base N qual scope f cd A outer s0 H0 E).xe e s':=by
 obtain⟨a,T0,cls,H2,rfl,os,bare,un,hok,ha,hT0,n0,⟨na',Wn⟩,q⟩:=c
 have na:H1 a=none:=I.hok.none na'
 have nT0:H1 T0=none:=I.hok.none Wn
 have q:=hE cls H2 q
 have I2:Inv (fO (lR P w) P w K mg base N qual scope f cd A outer s0 H0 E) pins σ H2 s':=I.call' (ch:=[]) os un hok bare fun b z=>nomatch z
 have ff:s'.heap.FunFrames base (envOfC qual scope s0.heap.objs.size f cd::outer):=I2.stack
 have fr:(A.deeper (envOfC qual scope s0.heap.objs.size f cd)).frames=some (envOfC qual scope s0.heap.objs.size f cd::outer):=I2.ok.frames
 show wpAny _ _ (leaving (envOfC qual scope s0.heap.objs.size f cd) (.ref a)) _ _ _
 unfold leaving
 refine aN ?_
 refine noteE2 fr ff rfl (wN.at (hok a _ ha)) (xJ.at (hok T0 _ hT0)) n0 fun h3 T nt=>?_
 have fT:s'.heap.get? T=none:=by
  cases z:s'.heap.get? T with
  | none=>rfl
  | some o=>exact absurd (b_ z) (Nat.not_lt.mpr nt.fresh)
 have nT:H2 T=none:=hok.none fT
 have Ta:T≠a:=fun z=>by rw[z,ha] at nT; cases nT
 have TT:T≠T0:=fun z=>by rw[z,hT0] at nT; cases nT
 have I3:Inv (fO (lR P w) P w K mg base N qual scope f cd A outer s0 H0 E) pins σ (upd (upd (upd H2 T0 (QR T0)) a (wN a cls T)) T (xJ T)) { s' with heap:=h3 }:=by
  refine I2.ext (fun b=>b=a\/b=T0\/b=T) (fun b o z y x=>nt.keep b o (fun w=>z (.inl w)) (fun w=>z (.inr (.inl w))) y x) (fun b o z x=>nt.slot b o (fun w=>z (.inl w)) (fun w=>z (.inr (.inl w))) x) (fun b o z x=>?_) (fun b z=>?_) (fun b z=>?_) (fun b u z y=>?_)
  ·rcases z with rfl | rfl | rfl
   ·obtain⟨oe,vs,e1,_⟩:=nt.ex; exact⟨_,e1⟩
   ·exact nt.old
   ·rw[fT] at x; cases x
  ·rcases z with rfl | rfl | rfl
   ·exact .inr ⟨_,ha⟩
   ·exact .inr ⟨_,hT0⟩
   ·exact .inl ⟨nT,fT⟩
  ·rw[aL fun w=>z (.inr (.inr w)),aL fun w=>z (.inl w),aL fun w=>z (.inr (.inl w))]
  ·rcases z with rfl | rfl | rfl
   ·rw[aL (Ne.symm Ta),az] at y; cases y; exact Ot nt.ex
   ·rw[aL (Ne.symm TT),aL n0,az] at y; cases y; exact U4 nt.old
   ·rw[az] at y; cases y; exact Ia nt.tb
 have U9:upd (upd (upd H2 T0 (QR T0)) a (wN a cls T)) T (xJ T) a=some (wN a cls T):=by rw[aL (Ne.symm Ta),az]
 have hT3:upd (upd (upd H2 T0 (QR T0)) a (wN a cls T)) T (xJ T) T=some (xJ T):=az
 have sm:aC H1 H2->aC H1 (upd (upd (upd H2 T0 (QR T0)) a (wN a cls T)) T (xJ T)):=fun y b o z=>by
  have g:=y b o z
  rw[aL (fun w=>by rw[w,nT] at g; cases g),aL (fun w=>by rw[w,na] at z; cases z),aL (fun w=>by rw[w,nT0] at z; cases z)]
  exact g
 refine⟨a,T,cls,_,rfl,I3.os,I3.bare,I3.base,I3.hok,U9,hT3,Ta,⟨?_,?_⟩,q _ sm⟩
 ·cases z:s0.heap.get? a with
  | none=>rfl
  | some o=>
   obtain⟨o',g⟩:=(show Un (frs outer) [] H0 H1 s0.heap s1.heap from I.base).there a o z (by simp)
   rw[na'] at g; cases g
 ·cases z:s0.heap.get? T with
  | none=>rfl
  | some o=>
   obtain⟨o',g⟩:=(show Un (frs outer) [] H0 H2 s0.heap s'.heap from I2.base).there T o z (by simp)
   rw[fT] at g; cases g
def MK (sp:Sp) (Lw:List V) (E:XK) (t:TA):TE:=fun σ H Q=>t σ H fun vs H1=>sp (vs++Lw) H1 Q (fun cls _ H2=>∀H3,(aC H1 H2->aC H1 H3)->E cls none H3)
theorem Rk {pins:List (Addr×Obj)} {σ:St} {H:Hp} {s:Shared} {Q:VK} {us:List Value} {vs:List V} {k:Nat} {x:Str} {ps:List Str} {sp:Sp} (c:Lr P w K mg base k x ps sp) (hr:gM k (A.deeper (envOfC qual scope s0.heap.objs.size f cd))) (I:Inv (fO (lR P w) P w K mg base N qual scope f cd A outer s0 H0 E) pins σ H s) (r:Vals vs us)
  (q:sp vs H Q (fun cls _ H2=>∀H3,(aC H H2->aC H H3)->E cls none H3)):wpAny (model P w) (A.deeper (envOfC qual scope s0.heap.objs.size f cd)) (call (.ref c.f) us) (EP (fO (lR P w) P w K mg base N qual scope f cd A outer s0 H0 E) pins σ Q) (fO (lR P w) P w K mg base N qual scope f cd A outer s0 H0 E).xe s:=by
 have hl2:us.length=ps.length:=by rw[<- r.length]; exact c.G.len _ _ _ _ q
 have hb:=c.b s us I.Ph (by rw[mL]; exact hl2)
 rw[mL] at hb
 refine wpAny_call (codeAny_mono (c.G.run _ _ s H ⟨us,[]⟩ us vs _ _ hr I.env0 hb r q) fun r s' z=>?_)
 cases r with
 | error e'=>
  have z':lR P w (envOfC qual scope s0.heap.objs.size f cd::outer) H s (fun cls _ H2=>∀H3,(aC H H2->aC H H3)->E cls none H3) e' s':=z
  exact J_ I z' fun cls H2 y=>y
 | ok fl=>
  cases fl with
  | ret u=>
   obtain⟨v,H2,I2,rv2,q2⟩:=I.after z
   exact⟨v,H2,I2,rv2,q2⟩
  | next=>exact False.elim z
  | brk=>exact False.elim z
  | cont=>exact False.elim z
theorem Y0 {k:Nat} {x:Str} {p pos:Pos} {e:Expr} {es:List Expr} {ps:List Str} {sp:Sp} {t:TA} (c:Lr P w K mg base k x ps sp) (hr:gM k (A.deeper (envOfC qual scope s0.heap.objs.size f cd))) (ha:PA (fO (lR P w) P w K mg base N qual scope f cd A outer s0 H0 E) (e::es) t)
  (hg:Gl (fO (lR P w) P w K mg base N qual scope f cd A outer s0 H0 E) x:=by rfl) (hdb:(x==("__debug__" : Str))=false:=by decide) (h1:cG e=true:=by rfl) (h2:es.all cG=true:=by rfl) :
  PE (fO (lR P w) P w K mg base N qual scope f cd A outer s0 H0 E) (.Call (.Name x p) (e::es) [] pos) (MK sp [] E t):=by
 refine .mk ?_
 intro pins s σ H Q I h
 refine uW (qu I hg c.m ?_ hdb)
 refine PySem.W.callWith_K (h₀:=base) I.ok.mod.Ls c.kp (cB (ha pos pins s σ H _ I h) fun us s1 ⟨vs,H1,I1,r,q⟩=>⟨I1.Ph,?_⟩) (cP h1) (cN h2)
 dsimp only at q
 rw[mL] at q
 exact Rk c hr I1 r q
end
abbrev TX:=St->Hp->VK->(Value->Hp->Hp->Prop)->Prop
abbrev Ly:=Ends->(Value->St->Hp->Hp->Prop)->St->Hp->Prop
def XL (X:Cx) (pins:List (Addr×Obj)) (σ:St) (EE:Value->Hp->Hp->Prop):Value->Shared->Prop:=fun e s'=>∃H1 s1 E',Inv X pins σ H1 s1/\lR X.prog X.w X.stack H1 s1 E' e s'/\∀cls H2,E' cls none H2->EE cls H1 H2
def XLs (X:Cx) (pins:List (Addr×Obj)) (EE:Value->St->Hp->Hp->Prop):Value->Shared->Prop:=fun e s'=>∃σ1 H1 s1 E',Inv X pins σ1 H1 s1/\lR X.prog X.w X.stack H1 s1 E' e s'/\∀cls H2,E' cls none H2->EE cls σ1 H1 H2
structure PX (X:Cx) (e:Expr) (t:TX):Prop where
 mk ::
 go:∀(pins:List (Addr×Obj)) (s:Shared) (σ:St) (H:Hp) (Q:VK) (EE:Value->Hp->Hp->Prop),Inv X pins σ H s->t σ H Q EE->wpAny (model X.prog X.w) X.A (eval e X.env) (EP X pins σ Q) (XL X pins σ EE) s
structure PSX (X:Cx) (st:Stmt) (t:Ly):Prop where
 mk ::
 go:∀(pins:List (Addr×Obj)) (s:Shared) (σ:St) (H:Hp) (D:Ends) (EE:Value->St->Hp->Hp->Prop),Inv X pins σ H s->t D EE σ H->wpAny (model X.prog X.w) X.A (exec st X.env) (SP X pins D) (XLs X pins EE) s
structure ZR (X:Cx) (st:List Stmt) (t:Ly):Prop where
 mk ::
 go:∀(pins:List (Addr×Obj)) (s:Shared) (σ:St) (H:Hp) (D:Ends) (EE:Value->St->Hp->Hp->Prop),Inv X pins σ H s->t D EE σ H->wpAny (model X.prog X.w) X.A (execs st X.env) (SP X pins D) (XLs X pins EE) s
def xPe (te:TE):TX:=fun σ H Q _=>te σ H Q
def T9 (sp:Sp) (Lw:List V) (ta:TA):TX:=fun σ H Q EE=>ta σ H fun vs H1=>sp (vs++Lw) H1 Q (fun cls _ H2=>EE cls H1 H2)
def xIf (tc:TT) (a b:TX):TX:=fun σ H Q EE=>tc σ H fun d H1=>if d=true then a σ H1 Q EE else b σ H1 Q EE
def X7 (i:Nat) (t:TX):Ly:=fun D EE σ H=>t σ H (fun v H'=>D.nx (σ.set i (some v)) H') (fun cls H1 H2=>EE cls σ H1 H2)
def X8 (t:TX):Ly:=fun D EE σ H=>t σ H (fun _ H'=>D.nx σ H') (fun cls H1 H2=>EE cls σ H1 H2)
def aaD (tc:TT) (a b:Ly):Ly:=fun D EE σ H=>tc σ H fun d H1=>if d=true then a D EE σ H1 else b D EE σ H1
def xPs (t:TS):Ly:=fun D _ σ H=>t D σ H
def aaC (a b:Ly):Ly:=fun D EE σ H=>a { D with nx:=fun σ' H'=>b D EE σ' H' } EE σ H
section
variable {X:Cx}
theorem RB {k:Nat} {x:Str} {p pos:Pos} {e:Expr} {es:List Expr} {ps:List Str} {sp:Sp} {t:TA} (c:Lr X.prog X.w X.K X.mg X.base k x ps sp) (hr:gM k X.A) (ha:PA X (e::es) t)
  (hn:∀e s,X.xe e s->False:=by exact fun _ _ z=>z) (hg:Gl X x:=by rfl) (hdb:(x==("__debug__" : Str))=false:=by decide) (h1:cG e=true:=by rfl) (h2:es.all cG=true:=by rfl) :
  PX X (.Call (.Name x p) (e::es) [] pos) (T9 sp [] t):=by
 refine .mk ?_
 intro pins s σ H Q EE I h
 refine uW (qu I hg c.m ?_ hdb)
 refine PySem.W.callWith_K (h₀:=X.base) I.ok.mod.Ls c.kp (fV (ha pos pins s σ H _ I h) (fun us s1 ⟨vs,H1,I1,r,q⟩=>⟨I1.Ph,?_⟩) fun _ _ z=>(hn _ _ z).elim) (cP h1) (cN h2)
 dsimp only at q
 rw[mL] at q
 have hl2:us.length=ps.length:=by rw[<- r.length]; exact c.G.len _ _ _ _ q
 have hb:=c.b s1 us I1.Ph (by rw[mL]; exact hl2)
 rw[mL] at hb
 refine wpAny_call (codeAny_mono (c.G.run _ _ s1 H1 ⟨us,[]⟩ us vs _ _ hr I1.env0 hb r q) fun r s' z=>?_)
 cases r with
 | error e'=>exact⟨H1,s1,fun cls _ H2=>EE cls H1 H2,I1,z,fun cls H2 y=>y⟩
 | ok fl=>
  cases fl with
  | ret u=>
   obtain⟨v,H2,I2,rv2,q2⟩:=I1.after z
   exact⟨v,H2,I2,rv2,q2⟩
  | next=>exact False.elim z
  | brk=>exact False.elim z
  | cont=>exact False.elim z
theorem RC {i:Nat} {x:Str} {e:Expr} {te:TX} {pos pos':Pos} (hN:X.N.Nodup) (he:PX X e te) (hi:X.N[i]?=some x:=by rfl) (hx:Loc X.env.scope x:=by first | exact Or.inl rfl | exact Or.inr rfl) (hs:swapsWith e (some (.Name x pos')) pos.line X.env=pure false:=by rfl) (hf:X.fn x=true\/X.env.scope.names.lookup x=some .local:=by first | exact .inl rfl | exact .inr rfl) (hn:∀e s,X.xe e s->False:=by exact fun _ _ z=>z) :
  PSX X (.Assign [.Name x pos'] e pos) (X7 i te):=by
 refine .mk ?_
 intro pins s σ H D EE I h
 refine wpAny_Assign_Name (fV (he.go pins s σ H _ _ I h) (fun v s1 ⟨y,H1,I1,r1,q1⟩=>?_) fun e s z=>?_) hs
 ·exact fU I1 hN hi hx r1 (fun s2 I2=>⟨_,H1,I2,q1⟩) hf
 ·obtain⟨H1,s1,E',I1,c,q⟩:=z
  exact⟨σ,H1,s1,E',I1,c,q⟩
theorem NK {st:Stmt} {a:Ly} (ha:PSX X st a):ZR X [st] a:=by
 refine .mk ?_
 intro pins s σ H D EE I h
 refine wpAny_execs_cons (fV (ha.go pins s σ H _ EE I h) (fun fl s1 z=>?_) fun _ _ z=>z)
 cases fl with
 | next=>exact yw z
 | ret u=>exact z
 | brk=>exact z
 | cont=>exact z
end
section
variable {X:Cx}
end
abbrev jN (K:PySem.W.Frag) (x:Str) (st:Stmt) (f:Addr):Prop:=∃(oc:Value) (od an:Option Addr) (sl:Array (Option Value)) (kV dc pm cd ct:Value),PySem.W.nsIn K mainGlobals x=some (some (.ref f))/\K.lookup f=some ⟨oc,od,.func (PySem.W.fnOf x x (dH st) (cJ st) (aH st) .none kV dc pm an cd ct),sl⟩/\PySem.W.codeIn K cd x=true/\PySem.W.keepIn K (.ref f)=true
abbrev T5 (K:PySem.W.Frag) (x:Str) (st:Stmt) (f:Addr) (T:Addr) (i:Int):Prop:=∃(oc oT:Value) (od an dT:Option Addr) (sl sT:Array (Option Value)) (kV dc pm cd ct:Value) (t:Tok) (nT:Nat),PySem.W.nsIn K mainGlobals x=some (some (.ref f))/\K.lookup f=some ⟨oc,od,.func (PySem.W.fnOf x x (dH st) (cJ st) (aH st) (.ref T) kV dc pm an cd ct),sl⟩/\PySem.W.codeIn K cd x=true/\PySem.W.keepIn K (.ref f)=true/\K.lookup T=some ⟨oT,dT,.seq #[.int i t] nT,sT⟩
structure Z0 (K:PySem.W.Frag) (mg:Str->Option Value) (x:Str) (st:Stmt) (ps:List Str) where
 f:Addr
 fd:FuncData
 F:jk K x x st f fd
 b:Binds K fd ps []
 m:mg x=some (.ref f)
structure QJ (K:PySem.W.Frag) (mg:Str->Option Value) (x:Str) (st:Stmt) (ps:List Str) (i:Int) where
 f:Addr
 fd:FuncData
 T:Addr
 t:Tok
 F:tM K x x st f fd T i t
 b:Binds K fd ps []
 bd:Binds K fd ps [.int i t]
 m:mg x=some (.ref f)
section
variable {K:PySem.W.Frag} {h:Heap} {mg:Str->Option Value}
theorem jN.mk {x:Str} {st:Stmt} {f:Addr} {oc:Value} {od an:Option Addr} {sl:Array (Option Value)} {kV dc pm cd ct:Value} (a:PySem.W.nsIn K mainGlobals x=some (some (.ref f))) (l:K.lookup f=some ⟨oc,od,.func (PySem.W.fnOf x x (dH st) (cJ st) (aH st) .none kV dc pm an cd ct),sl⟩) (c:PySem.W.codeIn K cd x=true) (k:PySem.W.keepIn K (.ref f)=true):jN K x st f:=⟨oc,od,an,sl,kV,dc,pm,cd,ct,a,l,c,k⟩
theorem T5.mk {x:Str} {st:Stmt} {f T:Addr} {i:Int} {oc oT:Value} {od an dT:Option Addr} {sl sT:Array (Option Value)} {kV dc pm cd ct:Value} {t:Tok} {nT:Nat} (a:PySem.W.nsIn K mainGlobals x=some (some (.ref f))) (l:K.lookup f=some ⟨oc,od,.func (PySem.W.fnOf x x (dH st) (cJ st) (aH st) (.ref T) kV dc pm an cd ct),sl⟩) (c:PySem.W.codeIn K cd x=true) (k:PySem.W.keepIn K (.ref f)=true) (e:K.lookup T=some ⟨oT,dT,.seq #[.int i t] nT,sT⟩):T5 K x st f T i:=⟨oc,oT,od,an,dT,sl,sT,kV,dc,pm,cd,ct,t,nT,a,l,c,k,e⟩
theorem jN.has {x:Str} {st:Stmt} {f:Addr} (e:jN K x st f) (X:K.In h) (G:h.Ns mainGlobals mg) {ps:List Str} (H:∀(kV doc pm:Value) (an:Option Addr) (cdv ct:Value) (us:List Value),us.length=ps.length->bindArgs (PySem.W.fnOf x x (dH st) (cJ st) (aH st) .none kV doc pm an cdv ct) ⟨us,[]⟩=pure (ps.zip us)):Nonempty (Z0 K mg x st ps):=by
 obtain⟨oc,od,an,sl,kV,dc,pm,cd,ct,a,l,c,k⟩:=e
 have F:=Qf (st:=st) l c k
 exact⟨⟨_,_,F,F.binds H,PySem.W.mg_of X G a⟩⟩
theorem T5.has {x:Str} {st:Stmt} {f T:Addr} {i:Int} (e:T5 K x st f T i) (X:K.In h) (G:h.Ns mainGlobals mg) {ps:List Str}
  (H:∀(t:Tok) (kV doc pm:Value) (an:Option Addr) (cdv ct:Value) (us:List Value),(us++[]).length=ps.length->∃k,bindArgs (PySem.W.fnOf x x (dH st) (cJ st) (aH st) (.ref T) kV doc pm an cdv ct) ⟨us,[]⟩=seqItems? (.ref T) >>= k/\k (some #[.int i t])=pure (ps.zip (us++[])))
  (H':∀(t:Tok) (kV doc pm:Value) (an:Option Addr) (cdv ct:Value) (us:List Value),(us++[Value.int i t]).length=ps.length->∃k,bindArgs (PySem.W.fnOf x x (dH st) (cJ st) (aH st) (.ref T) kV doc pm an cdv ct) ⟨us,[]⟩=seqItems? (.ref T) >>= k/\k (some #[.int i t])=pure (ps.zip (us++[.int i t]))):Nonempty (QJ K mg x st ps i):=by
 obtain⟨oc,oT,od,an,dT,sl,sT,kV,dc,pm,cd,ct,t,nT,a,l,c,k,e⟩:=e
 have F:tM K x x st f _ T i t:=⟨⟨_,_,_,_,_,_,_,_,_,rfl,l,c⟩,k,⟨_,_,e,rfl⟩⟩
 exact⟨⟨_,_,_,_,F,F.binds (H t),F.binds (H' t),PySem.W.mg_of X G a⟩⟩
def Z0.ct {x:Str} {st:Stmt} {ps:List Str} {k:Nat} {sp:Sp} (h:Z0 K mg x st ps) (P:Program) (w:World) (base:Heap) (G:bM P w K mg base iH k h.f h.fd ps sp):Ct P w K mg base k x ps sp:=⟨h.f,h.fd,G,h.F.kp,h.b,h.m⟩
def Z0.ctE {x:Str} {st:Stmt} {ps:List Str} {k:Nat} {sp:Sp} (h:Z0 K mg x st ps) (P:Program) (w:World) (base:Heap) (G:bM P w K mg base (lR P w) k h.f h.fd ps sp):Lr P w K mg base k x ps sp:=⟨h.f,h.fd,G,h.F.kp,h.b,h.m⟩
def QJ.ct {x:Str} {st:Stmt} {ps:List Str} {i:Int} {k:Nat} {sp:Sp} (h:QJ K mg x st ps i) (P:Program) (w:World) (base:Heap) (G:bM P w K mg base iH k h.f h.fd ps sp):Xc P w K mg base k x ps i sp:=⟨h.f,h.fd,h.t,G,h.F.kp,h.b,h.bd,h.m⟩
abbrev Nb (K:PySem.W.Frag) (x:Str):Prop:=PySem.W.nsIn K mainGlobals x=some none
abbrev Ni (K:PySem.W.Frag) (x:Str) (i:Int):Prop:=∃t,PySem.W.nsIn K mainGlobals x=some (some (.int i t))
abbrev xM (K:PySem.W.Frag) (x s:Str):Prop:=∃t,PySem.W.nsIn K mainGlobals x=some (some (.str s t))
theorem Ni.mk {x:Str} {i:Int} {t:Tok} (a:PySem.W.nsIn K mainGlobals x=some (some (.int i t))):Ni K x i:=⟨t,a⟩
theorem xM.mk {x s:Str} {t:Tok} (a:PySem.W.nsIn K mainGlobals x=some (some (.str s t))):xM K x s:=⟨t,a⟩
theorem Ni.gi {x:Str} {i:Int} (e:Ni K x i) (X:K.In h) (G:h.Ns mainGlobals mg):Gi mg x i:=let ⟨t,z⟩:=e; ⟨t,PySem.W.mg_of X G z⟩
theorem xM.gs {x s:Str} (e:xM K x s) (X:K.In h) (G:h.Ns mainGlobals mg):Gs mg x s:=let ⟨t,z⟩:=e; ⟨t,PySem.W.mg_of X G z⟩
abbrev NT (K:PySem.W.Frag) (x:Str) (vs:List Value):Prop:=∃(a:Addr) (n:Nat) (sl:Array (Option Value)),PySem.W.nsIn K mainGlobals x=some (some (.ref a))/\K.lookup a=some ⟨.type "tuple",none,.seq vs.toArray n,sl⟩
theorem NT.mk {x:Str} {vs:List Value} {a:Addr} {n:Nat} {sl:Array (Option Value)} (b:PySem.W.nsIn K mainGlobals x=some (some (.ref a))) (l:K.lookup a=some ⟨.type "tuple",none,.seq vs.toArray n,sl⟩):NT K x vs:=⟨a,n,sl,b,l⟩
end
theorem W4:bootBuiltins "set" = some (.type "set"):=by decide +kernel
section
variable {X:Cx} {pins:List (Addr×Obj)} {σ:St} {H1:Hp} {s1 s':Shared}
theorem K_ {e:Value} {E:XK} {D:Ends} {hx:Str} {CH:Addr} {hp pos:Pos} {b0:Stmt} {body:List Stmt} {ts:TS} (I:Inv X pins σ H1 s1) (c:lR X.prog X.w X.stack H1 s1 E e s')
  (hE:∀cls H2,E cls none H2->PySem.W.exmOne X.K cls (.ref CH)=some true/\∀a H3,(aC H1 H2->aC H1 H3)->ZX H3 a cls->ts D σ H3)
  (hg:Gl X hx) (hm:X.mg hx=some (.ref CH)) (hs:∀e,xK (X.in' e) (b0::body) ts) (hn:∀e s,X.xe e s->False) (st:X.stack=X.env::X.outer) (fL:X.env.frame=some X.env.locals) (hd:(hx==("__debug__" : Str))=false) :
  wpAny (model X.prog X.w) X.A (noteFrame e X.env) (fun _ s2=>wpAny (model X.prog X.w) X.A (setFlight e none) (fun _ s3=>wpAny (model X.prog X.w) X.A (handleBy e X.env [.ExceptHandler (some (.Name hx hp)) none (b0::body) pos]) (SP X pins D) X.xe s3) X.xe s2) X.xe s':=by
 obtain⟨a,T0,cls,H2,rfl,os,bare,un,hok,ha,hT0,n0,⟨na',Wn⟩,q⟩:=c
 have na:H1 a=none:=I.hok.none na'
 have nT0:H1 T0=none:=I.hok.none Wn
 obtain⟨ex,q⟩:=hE cls H2 q
 have I2:Inv X pins σ H2 s':=I.call' (ch:=[]) os un hok bare fun b z=>nomatch z
 have ff:s'.heap.FunFrames X.base (X.env::X.outer):=by rw[<- st]; exact I2.stack
 have fr:X.A.frames=some (X.env::X.outer):=by rw[<- st]; exact I2.ok.frames
 refine noteE2 fr ff fL (wN.at (hok a _ ha)) (xJ.at (hok T0 _ hT0)) n0 fun h3 T nt=>?_
 have fT:s'.heap.get? T=none:=by
  cases z:s'.heap.get? T with
  | none=>rfl
  | some o=>exact absurd (b_ z) (Nat.not_lt.mpr nt.fresh)
 have nT:H2 T=none:=hok.none fT
 have Ta:T≠a:=fun z=>by rw[z,ha] at nT; cases nT
 have TT:T≠T0:=fun z=>by rw[z,hT0] at nT; cases nT
 have I3:Inv X pins σ (upd (upd (upd H2 T0 (QR T0)) a (wN a cls T)) T (xJ T)) { s' with heap:=h3 }:=by
  refine I2.ext (fun b=>b=a\/b=T0\/b=T) (fun b o z y x=>nt.keep b o (fun w=>z (.inl w)) (fun w=>z (.inr (.inl w))) (by rw[<- st]; exact y) x) (fun b o z x=>nt.slot b o (fun w=>z (.inl w)) (fun w=>z (.inr (.inl w))) x) (fun b o z x=>?_) (fun b z=>?_) (fun b z=>?_) (fun b u z y=>?_)
  ·rcases z with rfl | rfl | rfl
   ·obtain⟨oe,vs,e1,_⟩:=nt.ex; exact⟨_,e1⟩
   ·exact nt.old
   ·rw[fT] at x; cases x
  ·rcases z with rfl | rfl | rfl
   ·exact .inr ⟨_,ha⟩
   ·exact .inr ⟨_,hT0⟩
   ·exact .inl ⟨nT,fT⟩
  ·rw[aL fun w=>z (.inr (.inr w)),aL fun w=>z (.inl w),aL fun w=>z (.inr (.inl w))]
  ·rcases z with rfl | rfl | rfl
   ·rw[aL (Ne.symm Ta),az] at y; cases y; exact Ot nt.ex
   ·rw[aL (Ne.symm TT),aL n0,az] at y; cases y; exact U4 nt.old
   ·rw[az] at y; cases y; exact Ia nt.tb
 have U9:upd (upd (upd H2 T0 (QR T0)) a (wN a cls T)) T (xJ T) a=some (wN a cls T):=by rw[aL (Ne.symm Ta),az]
 have hT3:upd (upd (upd H2 T0 (QR T0)) a (wN a cls T)) T (xJ T) T=some (xJ T):=az
 have sm:aC H1 H2->aC H1 (upd (upd (upd H2 T0 (QR T0)) a (wN a cls T)) T (xJ T)):=fun y b o z=>by
  have g:=y b o z
  rw[aL (fun w=>by rw[w,nT] at g; cases g),aL (fun w=>by rw[w,na] at z; cases z),aL (fun w=>by rw[w,nT0] at z; cases z)]
  exact g
 have q3:=q a _ sm ⟨T,U9⟩
 generalize upd (upd (upd H2 T0 (QR T0)) a (wN a cls T)) T (xJ T)=H3 at I3 U9 hT3 q3
 generalize ({ s' with heap:=h3 }:Shared)=s3 at I3
 refine wpAny_handleBy_cons (codeAny_handlers_test ?_) (by intro z; cases z)
 refine Calls.Name_function_global I3.ok.kind hg (Calls.loadGlobal_global (by rw[I3.ok.glob]; exact I3.mod.glob.keeps I3.bk) hm ?_) hd
 obtain⟨oe,vs,e1,⟨ec,_⟩,ed,ev⟩:=wN.at (I3.hok a _ U9)
 have LT:PySem.W.Looks (model X.prog X.w) s3.heap (typeOf (.ref a)) cls:=ec▸(PySem.W.Looks.ld e1).andThen .now
 refine(PySem.W.exm_one I3.Ph LT ex).here ?_
 refine codeAny_handlers_suite (K6 I3 U9 hT3 fun s4 I4=>?_)
 refine fV (hs (.ref a) pins s4 _ _ _ (I4.inE (.ref a)) q3) (fun fl s6 z=>?_) fun e6 s6 z=>(hn _ _ z).elim
 cases fl with
 | next=>
  obtain⟨σ6,H6,I6,q6⟩:=z
  exact⟨σ6,H6,I6.RV I4.ok,q6⟩
 | ret u=>
  obtain⟨v,σ6,H6,I6,rv,q6⟩:=z
  exact⟨v,σ6,H6,I6.RV I4.ok,rv,q6⟩
 | brk=>
  obtain⟨σ6,H6,I6,q6⟩:=z
  exact⟨σ6,H6,I6.RV I4.ok,q6⟩
 | cont=>
  obtain⟨σ6,H6,I6,q6⟩:=z
  exact⟨σ6,H6,I6.RV I4.ok,q6⟩
def Ue (ok:Value->Prop) (tb:Ly) (ts:TS):TS:=fun D σ H=>tb D (fun cls σ1 H1 H2=>ok cls/\∀a H3,(aC H1 H2->aC H1 H3)->ZX H3 a cls->ts D σ1 H3) σ H
theorem RD {K:PySem.W.Frag} {hx:Str} {CH:Addr} {hp pos tp:Pos} {body:List Stmt} {b0:Stmt} {suite:List Stmt} {tb:Ly} {ts:TS} (hK:X.K=K)
  (hb:ZR X body tb) (hs:∀e,xK (X.in' e) (b0::suite) ts) (hm:X.mg hx=some (.ref CH)) (hgx:Gl X hx:=by rfl)
  (hn:∀e s,X.xe e s->False:=by exact fun _ _ z=>z) (st:X.stack=X.env::X.outer:=by rfl) (fL:X.env.frame=some X.env.locals:=by rfl) (hd:(hx==("__debug__" : Str))=false:=by decide) :
  PS X (.Try body [.ExceptHandler (some (.Name hx hp)) none (b0::suite) pos] [] [] tp) (Ue (fun cls=>PySem.W.exmOne K cls (.ref CH)=some true) tb ts):=by
 subst hK
 refine .mk ?_
 intro pins s σ H D I h
 refine wpAny_Try_except (fV (hb.go pins s σ H D _ I h) (fun fl s1 z=>?_) fun e s' z=>?_)
 ·cases fl with
  | next=>exact yw z
  | ret u=>exact z
  | brk=>exact z
  | cont=>exact z
 ·obtain⟨σ1,H1,s1,E',I1,c,q⟩:=z
  exact K_ I1 c q hgx hm hs hn st fL hd
end
section
variable {P:Program} {w:World} {K:PySem.W.Frag} {mg:Str->Option Value} {base:Heap}
theorem tM.Xj {x qual:Str} {st:Stmt} {f T:Addr} {i:Int} {t:Tok} {fd:FuncData} {N ps:List Str} {k:Nat} {sp:Sp} (F:tM K x qual st f fd T i t) (S:aR N ps (aH st)) (len:∀vs H Q E,sp vs H Q E->vs.length=ps.length)
  (hbody:∀(cdv:Value) (A:Around) (outer:List Env) (s:Shared) (H:Hp) (vs:List V) (Q:VK) (E:XK),lK P w H s.heap->gM k (A.deeper (envOfC qual (aH st) s.heap.objs.size f cdv))->sp vs H Q E ->
   ∃t,xK (fO (lR P w) P w K mg base N qual (aH st) f cdv A outer s H E) (cJ st) t/\t { nx:=fun _ H'=>Q .non H',rt:=Q } (start N vs) H):bM P w K mg base (lR P w) (k+1) f fd ps sp:=by
 obtain⟨oc,od,kV,doc,pm,an,cdv,ct,osl,rfl,lk,hcd⟩:=F.ex
 exact Qh lk hcd S len fun A outer s H vs Q E K5 hr hsp=>hbody cdv A outer s H vs Q E K5 hr hsp
structure L_ (P:Program) (w:World) (K:PySem.W.Frag) (mg:Str->Option Value) (base:Heap) (k:Nat) (x:Str) (ps:List Str) (i:Int) (sp:Sp) where
 f:Addr
 fd:FuncData
 t:Tok
 G:bM P w K mg base (lR P w) k f fd ps sp
 kp:PySem.W.keepIn K (.ref f)=true
 b:Binds K fd ps []
 bd:Binds K fd ps [.int i t]
 m:mg x=some (.ref f)
def L_.mono {j k:Nat} {x:Str} {ps:List Str} {i:Int} {sp:Sp} (c:L_ P w K mg base j x ps i sp) (h:j<=k):L_ P w K mg base k x ps i sp:={ c with G:=c.G.mono h }
def L_.all {k:Nat} {x:Str} {ps:List Str} {i:Int} {sp:Sp} (c:L_ P w K mg base k x ps i sp):Lr P w K mg base k x ps sp:=⟨c.f,c.fd,c.G,c.kp,c.b,c.m⟩
def QJ.ctF {x:Str} {st:Stmt} {ps:List Str} {i:Int} {k:Nat} {sp:Sp} (h:QJ K mg x st ps i) (P:Program) (w:World) (base:Heap) (G:bM P w K mg base (lR P w) k h.f h.fd ps sp):L_ P w K mg base k x ps i sp:=⟨h.f,h.fd,h.t,G,h.F.kp,h.b,h.bd,h.m⟩
end
section
variable {X:Cx}
end
section
variable {X:Cx}
def Uw:List V->Hp->VK->Prop:=fun vs H Q=>∃j:Int,vs=[.int j]/\-(2 ^ 62)<=j/\j<2 ^ 62/\∀p H',H p=none->aC H H'->H' p=some (.Rn 0 j)->Q (.ref p) H'
theorem Lb:dI X (.type "range") Uw:=by
 refine .mk ?_
 intro pins s σ H vs us Q I r h
 obtain⟨j,rfl,h1,h2,q⟩:=h
 obtain⟨u,rfl,t,rfl⟩:=r.one
 refine call_range_1 ?_
 have hf:=I.hok.fresh (cW s.heap.objs.size)
 exact⟨.ref s.heap.objs.size,_,I.laid (a:=s.heap.objs.size) (o:=.Rn 0 j) (fun _ _ q=>gb _ q) (cW _) (show cL X.prog X.w _ _ _ (.Rn 0 j) from⟨_,_,_,dX _ rfl⟩),rfl,q _ _ hf (aO hf _) az⟩
def Uy:List V->Hp->VK->Prop:=fun vs H Q=>∃(p:Addr) (j:Int),vs=[.ref p]/\H p=some (.Rn 0 j)/\-(2 ^ 62)<=j/\j<2 ^ 62/\j.toNat<=1000/\∀l H',H l=none->aC H H'->H' l=some (.lst ((List.range j.toNat).map fun i:Nat=>V.int i))->Q (.ref l) H'
theorem Lg (hd:X.A.handled=none):dI X (.type "list") Uy:=by
 refine .mk ?_
 intro pins s σ H vs us Q I r h
 obtain⟨p,j,rfl,hp,h1,h2,h3,q⟩:=h
 obtain⟨u,rfl,ru⟩:=r.one
 cases ru
 obtain⟨t,u,v,e⟩:=(show cL X.prog X.w H s.heap p (.Rn 0 j) from I.hok p _ hp)
 have e2:Builtin.Range.rangeSize 0 j 1=(j.toNat:Nat):=by rw[rangeSize_one]; split <;> omega
 refine call_list_range (n:=j.toNat) hd (show IsRange s.heap p 0 j 1 t u v from e) (small_one (by omega) (by omega) h1 h2) e2 (by omega) fun h' tk acc c' kp el it=>?_
 have hf:=I.hok.fresh (cW s.heap.objs.size)
 have hz:((List.range j.toNat).map fun i:Nat=>V.int i).length<=sizeLine:=by
  rw[bR,Hv,sizeLine_eq]; omega
 have vl:Vals ((List.range j.toNat).map fun i:Nat=>V.int i) acc.toList:=by
  have key:∀(n k:Nat) (l:List Value),l.length=n->(∀(i:Nat) (v:Value),l[i]?=some v->∃t,v=Value.int ((k+i:Nat):Int) t)->Vals ((List.range' k n).map fun i:Nat=>V.int i) l:=by
   intro n
   induction n with
   | zero=>
    intro k l hl _
    rw[Nu.mp hl]
    exact .nil
   | succ n ih=>
    intro k l hl hv
    match l,hl with
    | x::l,hl=>
     obtain⟨t,rfl⟩:=hv 0 x rfl
     rw[List.range'_succ]
     refine .cons ⟨t,rfl⟩ (ih (k+1) l (by simpa using hl) fun i v h=>?_)
     obtain⟨t,rfl⟩:=hv (i+1) v h
     exact⟨t,by rw[show k+(i+1)=k+1+i by omega]⟩
  rw[List.range_eq_range']
  refine key _ 0 _ (by rw[lQ]; exact it.1) fun i v h=>?_
  rw[Cj] at h
  obtain⟨t,rfl⟩:=it.2 i v h
  exact⟨t,by simp⟩
 exact⟨.ref s.heap.objs.size,_,I.laid (a:=s.heap.objs.size) (o:=.lst ((List.range j.toNat).map fun i:Nat=>V.int i)) (t':=tk) kp (cW _) (show cL X.prog X.w _ h' _ (.lst _) from⟨hz,acc.toList,c',vl,el⟩),rfl,q _ _ hf (aO hf _) az⟩
end
def Gn (ns:List Int) (i:Int) (j:Nat):Prop:=ns[j]?=some i/\∀m,m<j->ns[m]?≠some i
def YQ:V->List V->Hp->VK->Prop:=fun x xs H Q=>∃(p:Addr) (ns:List Int) (i:Int) (j:Nat),x=.ref p/\H p=some (.lst (ns.map V.int))/\xs=[.int i]/\ns.length<=1000/\Gn ns i j/\Q (.int (j:Nat)) H
section
variable {X:Cx}
theorem Bp {xs:List V}:∀{us:List Value},Vals xs us->∀{j:Nat} {x:V},xs[j]?=some x->∃u,us[j]?=some u/\RelV x u:=by
 induction xs with
 | nil=>intro us _ j x h; simp at h
 | cons y ys ih=>
  intro us r j x h
  cases r with
  | cons r1 r2=>
   cases j with
   | zero=>simp at h; subst h; exact⟨_,rfl,r1⟩
   | succ j=>simp at h; obtain⟨u,h1,h2⟩:=ih r2 h; exact⟨u,by simpa using h1,h2⟩
def Iz (i:Int):Value->Bool
 | .int a _=>a==i
 | _=>false
theorem JB {xs:List V}:∀{us:List Value},Vals xs us->∀{j:Nat} {u:Value},us[j]?=some u->∃x,xs[j]?=some x/\RelV x u:=by
 induction xs with
 | nil=>intro us r j u h; cases r; simp at h
 | cons y ys ih=>
  intro us r j x h
  cases r with
  | cons r1 r2=>
   cases j with
   | zero=>simp at h; subst h; exact⟨_,rfl,r1⟩
   | succ j=>simp at h; obtain⟨u,h1,h2⟩:=ih r2 h; exact⟨u,by simpa using h1,h2⟩
theorem Ge:MtR X "list.index" YQ:=by
 intro pins s σ H x xs v us Q I rx rv h
 obtain⟨p,ns,i,j,rfl,hp,rfl,hl,⟨hj,hno⟩,q⟩:=h
 cases rx
 obtain⟨u,rfl,tk,rfl⟩:=rv.one
 obtain⟨_,its,n,r,e⟩:=I.hok p _ hp
 have back:∀{m:Nat} {u:Value},its[m]?=some u->∃a k,ns[m]?=some a/\u=.int a k:=fun {m u} hm=>by
  obtain⟨x,h1,h2⟩:=JB r hm
  rw[g8] at h1
  cases ha:ns[m]? with
  | none=>rw[ha] at h1; cases h1
  | some a=>
   rw[ha] at h1
   cases h1
   obtain⟨k,rfl⟩:=(h2:∃tk,u=Value.int a tk)
   exact⟨a,k,rfl,rfl⟩
 have ee:∀y,y∈its.toArray->SeqAt.EqAt X.A.in1 s y (.int i tk) (Iz i y):=fun y hy=>by
  obtain⟨m,hm⟩:=Cm.mp (List.mem_toArray.mp hy)
  obtain⟨a,k,_,rfl⟩:=back hm
  exact SeqAt.EqAt.int_int _ _ _ _
 obtain⟨u,hu,k,rfl⟩:=Bp r (x:=.int i) (by rw[g8,hj]; rfl)
 have hlt:j<its.length:=(fK.mp hu).1
 have hlen:its.length=ns.length:=by rw[<- r.length,bR]
 refine call_meets PySem.F.slot_list_index ⟨_,e,rfl⟩ PySem.F.entry_list_index (PySem.F.args_list_index_2 _ _) (SeqAt.list_indexAt p its.toArray n none #[] (.int i tk) (Iz i) j (by simpa using hlt) (by omega) ?_ ?_) ⟨e,ee,?_⟩
 ·have:=(fK.mp hu).2
  show Iz i its[j]=true
  rw[this]
  show(i==i)=true
  simp
 ·intro m hm h
  have hm':m<its.length:=by simpa using hm
  obtain⟨a,k2,h1,h2⟩:=back (eV hm')
  show Iz i its[m]=false
  rw[h2]
  show(a==i)=false
  have:=hno m h
  rw[h1] at this
  simp at this ⊢
  exact this
 ·exact⟨.int (j:Nat),H,I.tok _,⟨_,rfl⟩,q⟩
end
section
variable {X:Cx}
end
section
variable {X:Cx}
end
section
variable {X:Cx}
end
section
variable {X:Cx}
end
end L2
namespace L2
open PySem PySem.Spec PyProof.Rows PySem.MeetsSeq3
def j4:List Int->List Int->Bool
 | [],[]=>false
 | [],_::_=>true
 | _::_,[]=>false
 | a::as,b::bs=>if a=b then j4 as bs else decide (a<b)
def wM (as:List Int) (its:Array Value):Prop:=its.size=as.length/\∀(j:Nat) (a:Int),as[j]?=some a->∃t,its[j]?=some (Value.int a t)
theorem Ij:∀a:List Int,j4 a a=false
 | []=>rfl
 | a::as=>by unfold j4; rw[aM rfl]; exact Ij as
def Di (a0 b0:Int) (as bs:List Int):Bool:=if a0=b0 then j4 as bs else decide (a0<b0)
theorem DG {as:List Int} {its:List Value} (h:Vals (as.map V.int) its):wM as its.toArray:=by
 refine⟨by have:=h.length; simpa using this.symm,fun j a e=>?_⟩
 obtain⟨u,h1,h2⟩:=h.get (i:=j) (x:=.int a) (by rw[g8,e]; rfl)
 obtain⟨t,rfl⟩:=h2
 exact⟨t,by simpa using h1⟩
theorem yM:∀ns ms:List Int,PyData.eqvAll (ns.map PyData.int) (ms.map PyData.int)=decide (ns=ms)
 | [],[]=>by simp[PyData.eqvAll]
 | [],_::_=>by simp[PyData.eqvAll]
 | _::_,[]=>by simp[PyData.eqvAll]
 | a::r,b::t=>by
  have ih:=yM r t
  simp only[kW,PyData.eqvAll,PyData.eqv,ih]
  by_cases h1:a=b
  ·by_cases h2:r=t
   ·simp[h1,h2]
   ·simp[h1,h2]
  ·simp[h1]
theorem rO {H:Hp}:∀ns:List Int,aj H (ns.map PyData.int) (ns.map V.int)
 | []=>aj.nil
 | n::ns=>aj.cons (At.int n) (rO ns)
section
variable {X:Cx}
end
end L2
namespace L2
open PySem PySem.Spec PyProof.Rows PySem.MeetsSeq3
theorem YJ {prog:Program} {w:World} {A:Around} {E:Value->Shared->Prop} {s:Shared} {a b:Int} {t u:Tok} {Q:Value->Shared->Prop} (h:Q (.bool (decide (b<a))) s):wpAny (model prog w) A (richCompare .Gt (.int a t) (.int b u)) Q E s:=gt_int h
theorem S9 (l b:Addr) (as bs:List Int) (items items2:Array Value) (n n2:Nat) (dd dd2:Option Addr) (sl sl2:Array (Option Value)) (h1:wM as items) (h2:wM bs items2) (k:Nat) :
  ∀i:Nat,as.length-i=k->i<=as.length->i<=bs.length->Meets (Builtin.«list.__eq__.loop» ⟨[.ref l,.ref b,rawInt i,rawInt 4],[]⟩)
   (fun A R s=>s.heap.get? l=some { cls:=.type "list",dict:=dd,data:=.seq items n,slots:=sl }/\s.heap.get? b=some { cls:=.type "list",dict:=dd2,data:=.seq items2 n2,slots:=sl2 } /\
    R (.ok (.ret (.bool (j4 (bs.drop i) (as.drop i))))) s):=by
 have end':∀i:Nat,i<=as.length->i<=bs.length->(i=as.length\/i=bs.length)->Meets (Builtin.«list.__eq__.loop» ⟨[.ref l,.ref b,rawInt i,rawInt 4],[]⟩)
   (fun A R s=>s.heap.get? l=some { cls:=.type "list",dict:=dd,data:=.seq items n,slots:=sl }/\s.heap.get? b=some { cls:=.type "list",dict:=dd2,data:=.seq items2 n2,slots:=sl2 } /\
    R (.ok (.ret (.bool (j4 (bs.drop i) (as.drop i))))) s):=by
  intro i l1 l2 hi prog w A R s h
  obtain⟨hp,g,d,tk,os⟩:=s; obtain⟨hl,hb,h⟩:=h
  wp_walk using wpAny_loadPart' hl,wpAny_loadPart' hb
  have key:j4 (bs.drop i) (as.drop i)=decide (items2.size<items.size):=by
   rw[h1.1,h2.1]
   rcases hi with e | e
   ·rw[HJ (show as.length<=i by omega)]
    rw[fH (by omega)]
    cases bs.drop i <;> rfl
   ·rw[HJ (show bs.length<=i by omega)]
    by_cases z:i<as.length
    ·rw[Cu z,iC (by omega)]; rfl
    ·rw[HJ (show as.length<=i by omega),fH (by omega)]; rfl
  rw[key] at h
  by_cases z:i<as.length
  ·have hi2:items2[((i:Nat):Int).toNat]?=none:=by simp; rw[h2.1]; omega
   have hz:∃v,items[((i:Nat):Int).toNat]?=some v:=⟨items[i]'(by have:=h1.1; omega),by simp[h1.1,z]⟩
   obtain⟨v,hi1⟩:=hz
   rw[hi1,hi2]
   wp_walk using wpAny_loadPart' hl,wpAny_loadPart' hb
   exact h
  ·have hi1:items[((i:Nat):Int).toNat]?=none:=by simp; rw[h1.1]; omega
   rw[hi1]
   wp_walk using wpAny_loadPart' hl,wpAny_loadPart' hb
   exact h
 induction k with
 | zero=>intro i hk l1 l2; exact end' i l1 l2 (.inl (by omega))
 | succ k ih=>
  intro i hk l1 l2
  by_cases hz:i=bs.length
  ·exact end' i l1 l2 (.inr hz)
  intro prog w A R s h
  obtain⟨hp,g,d,tk,os⟩:=s; obtain⟨hl,hb,h⟩:=h
  wp_walk using wpAny_loadPart' hl,wpAny_loadPart' hb
  have hlt:i<as.length:=by omega
  have hlt2:i<bs.length:=by omega
  obtain⟨t1,e1⟩:=h1.2 i _ (eV hlt)
  obtain⟨t2,e2⟩:=h2.2 i _ (eV hlt2)
  have hi1:items[((i:Nat):Int).toNat]?=some (.int as[i] t1):=e1
  have hi2:items2[((i:Nat):Int).toNat]?=some (.int bs[i] t2):=e2
  have hc:((i:Int)+1)=((i+1:Nat):Int):=by push_cast; rfl
  rw[Cu hlt,Cu hlt2] at h
  rw[hi1,hi2]
  refine aN (SeqAt.EqAt.int_int (A:=A.in1) (s:=⟨hp,g,d,tk,os⟩) as[i] t1 bs[i] t2 prog w _ _ ?_)
  by_cases e0:as[i]=bs[i]
  ·have eb:(as[i]==bs[i])=true:=by simpa using e0
   rw[eb]
   unfold j4 at h
   rw[aM e0.symm] at h
   wp_walk
   rw[hc]
   exact⟨plainId_quiet plain_eq_loop _,codeAny_builtin entry_eq_loop (by
    rw[Around.under_plainId plain_eq_loop _]
    exact ih (i+1) (by omega) (by omega) (by omega) prog w A R _ ⟨hl,hb,h⟩)⟩
  ·have eb:(as[i]==bs[i])=false:=by simpa using e0
   rw[eb]
   unfold j4 at h
   rw[aK (Ne.symm e0)] at h
   wp_walk using wpAny_loadPart' hl,wpAny_loadPart' hb
   rw[hi1,hi2]
   wp_walk using YJ
   exact h
theorem KC (l b:Addr) (as bs:List Int) (items items2:Array Value) (n n2:Nat) (dd dd2:Option Addr) (sl sl2:Array (Option Value)) (h1:wM as items) (h2:wM bs items2) :
  Meets (Builtin.«list.__gt__» ⟨[.ref l,.ref b],[]⟩)
   (fun A R s=>s.heap.get? l=some { cls:=.type "list",dict:=dd,data:=.seq items n,slots:=sl }/\s.heap.get? b=some { cls:=.type "list",dict:=dd2,data:=.seq items2 n2,slots:=sl2 } /\
    R (.ok (.ret (.bool (j4 bs as)))) s):=by
 intro prog w A R s h
 obtain⟨hp,g,d,tk,os⟩:=s; obtain⟨hl,hb,h⟩:=h
 have f3:=AutoSeq1.sub_list_list
 wp_walk using wpAny_loadPart' hl,wpAny_loadPart' hb
 exact⟨plainId_quiet plain_eq_loop _,codeAny_builtin entry_eq_loop (by
  rw[Around.under_plainId plain_eq_loop _]
  exact S9 l b as bs items items2 n n2 dd dd2 sl sl2 h1 h2 _ 0 rfl (e_ _) (e_ _) prog w A R _ ⟨hl,hb,h⟩)⟩
theorem YH {prog:Program} {w:World} {A:Around} {E:Value->Shared->Prop} {s:Shared} {l b:Addr} {as bs:List Int} {items items2:Array Value} {Q:Value->Shared->Prop} (hl:s.heap.IsList l items) (hb:s.heap.IsList b items2) (h1:wM as items) (h2:wM bs items2) (hu:A.units<cLine) (h:Q (.bool (j4 bs as)) s):wpAny (model prog w) A (richCompare .Gt (.ref l) (.ref b)) Q E s:=by
 obtain⟨⟨cls,dd,data,sl⟩,ho,hc,n,hd⟩:=id hl
 obtain⟨⟨cls2,dd2,data2,sl2⟩,ho2,hc2,n2,hd2⟩:=id hb
 simp only at hc hd hc2 hd2
 subst hc hd hc2 hd2
 exact richCompare_meets_room (op:=.Gt) ⟨_,ho,rfl⟩ ⟨_,ho2,rfl⟩ F.slot_list_gt F.entry_list_gt (F.args_list_gt_2 _ _) (KC l b as bs items items2 n n2 dd dd2 sl sl2 h1 h2)
  ⟨ho,ho2,show Value.bool (j4 bs as)≠Value.notImplemented/\Q (.bool (j4 bs as)) s from⟨(fun x=>nomatch x),h⟩⟩ hu
theorem JG (l b la lb:Addr) (a0 b0:Int) (k0 k2:Tok) (e r:Bool) (n n2:Nat) (dd dd2:Option Addr) (sl sl2:Array (Option Value)) :
  Meets (Builtin.«tuple.__gt__» ⟨[.ref l,.ref b],[]⟩)
   (fun A R s=>s.heap.get? l=some { cls:=.type "tuple",dict:=dd,data:=.seq #[.int a0 k0,.ref la] n,slots:=sl }/\s.heap.get? b=some { cls:=.type "tuple",dict:=dd2,data:=.seq #[.int b0 k2,.ref lb] n2,slots:=sl2 } /\
    SeqAt.EqAt A.in1 s (.ref la) (.ref lb) e/\(∀prog w E Q,Q (.bool r) s->wpAny (model prog w) A.in1 (richCompare .Gt (.ref la) (.ref lb)) Q E s) /\
    R (.ok (.ret (.bool (if a0=b0 then(if e=true then false else r) else decide (b0<a0))))) s):=by
 intro prog w A R s h
 obtain⟨hp,g,d,tk,os⟩:=s; obtain⟨hl,hb,he,hr,h⟩:=h
 have f2:=AutoSeq1.sub_tuple_tuple
 wp_walk using wpAny_loadPart' hl,wpAny_loadPart' hb
 refine SeqAt.EqAt.int_int (A:=A.in1) (s:=⟨hp,g,d,tk,os⟩) a0 k0 b0 k2 prog w _ _ ?_
 by_cases e0:a0=b0
 ·have eb:(a0==b0)=true:=by simpa using e0
  rw[eb]
  rw[aM e0] at h
  have he':∀{E:Value->Shared->Prop} {Q:Bool->Shared->Prop},Q e ⟨hp,g,d,tk,os⟩->wpAny (model prog w) A.in1 (eqBool (Value.ref la) (Value.ref lb)) Q E ⟨hp,g,d,tk,os⟩:=fun {E Q} q=>he prog w E Q q
  clear he
  wp_walk using he'
  cases e with
  | true=>
   rw[aM rfl] at h
   wp_walk
   exact h
  | false=>
   rw[aK (by decide)] at h
   have hr':∀{E:Value->Shared->Prop} {Q:Value->Shared->Prop},Q (.bool r) ⟨hp,g,d,tk,os⟩->wpAny (model prog w) A.in1 (richCompare .Gt (Value.ref la) (Value.ref lb)) Q E ⟨hp,g,d,tk,os⟩:=fun {E Q} q=>hr prog w E Q q
   clear hr
   wp_walk using hr'
   exact h
 ·have eb:(a0==b0)=false:=by simpa using e0
  rw[eb]
  rw[aK e0] at h
  wp_walk using YJ
  exact h
def aaZ:R2:=fun x y H Q=>∃(a b la lb:Addr) (a0 b0:Int) (as bs:List Int),x=.ref a/\y=.ref b/\H a=some (.tup [.int a0,.ref la])/\H b=some (.tup [.int b0,.ref lb])/\H la=some (.lst (as.map V.int))/\H lb=some (.lst (bs.map V.int))/\Q (.bl (Di b0 a0 bs as)) H
section
variable {X:Cx}
theorem Wa (hu:X.A.units+64<cLine):oG X (compareOp .Gt) aaZ:=by
 refine .mk ?_
 intro pins s σ H x y v u Q I rx ry h
 obtain⟨a,b,la,lb,a0,b0,as,bs,rfl,rfl,ha,hb,hla,hlb,q⟩:=h
 cases rx
 cases ry
 obtain⟨_,its,r,⟨cls,dd,data,sl⟩,e,hc,n,hd⟩:=I.hok a _ ha
 obtain⟨_,its2,r2,⟨cls2,dd2,data2,sl2⟩,e2,hc2,n2,hd2⟩:=I.hok b _ hb
 simp only at hc hd hc2 hd2
 subst hc hd hc2 hd2
 obtain⟨u0,u1,rfl,⟨k0,rfl⟩,e5⟩:=r.two
 obtain⟨w0,w1,rfl,⟨k2,rfl⟩,e6⟩:=r2.two
 cases e5
 cases e6
 obtain⟨_,i3,n3,r3,e3⟩:=I.hok la _ hla
 obtain⟨_,i4,n4,r4,e4⟩:=I.hok lb _ hlb
 have d1:=iQ as
 have d2:=iQ bs
 have A1:At H (.list (as.map .int)) (.ref la):=At.lst hla (rO as)
 have A2:At H (.list (bs.map .int)) (.ref lb):=At.lst hlb (rO bs)
 obtain⟨p1,q1⟩:=gZ I.hok _ _ _ A1 (show RelV (.ref la) (.ref la) from rfl) (by simpa[PyData.hasDict] using d1.1)
 obtain⟨p2,q2⟩:=gZ I.hok _ _ _ A2 (show RelV (.ref lb) (.ref lb) from rfl) (by simpa[PyData.hasDict] using d2.1)
 have E:=SeqAt.eqAt_reads _ _ X.A.in1 s _ _ _ _ q1 q2 (by simpa[PyData.canLay0] using d1.2.1) (by simpa[PyData.canLay0] using d2.2.1) (by
  have z:PyData.depth (.list (as.map .int))<=60:=by show PyData.depthAll _+1<=60; rw[d1.2.2]; decide
  have:=Nat.min_le_left (PyData.depth (.list (as.map .int))) (PyData.depth (.list (bs.map .int)))
  rw[Around.in1_units]
  omega)
 have eE:PyData.eqv (.list (as.map .int)) (.list (bs.map .int))=decide (as=bs):=by show PyData.eqvAll _ _=_; exact yM as bs
 rw[eE] at E
 have L:∀prog w (E':Value->Shared->Prop) Q',Q' (.bool (j4 bs as)) s->wpAny (model prog w) X.A.in1 (richCompare .Gt (.ref la) (.ref lb)) Q' E' s:=fun prog w E' Q' h=>YH (show s.heap.IsList la i3.toArray from⟨_,e3,rfl,n3,rfl⟩) (show s.heap.IsList lb i4.toArray from⟨_,e4,rfl,n4,rfl⟩) (DG r3) (DG r4) (by rw[Around.in1_units]; omega) h
 have eq:(if a0=b0 then(if decide (as=bs)=true then false else j4 bs as) else decide (b0<a0))=Di b0 a0 bs as:=by
  unfold Di
  by_cases y:a0=b0
  ·rw[aM y,aM y.symm]
   by_cases z:as=bs
   ·subst z; simp[Ij]
   ·simp[z]
  ·rw[aK y,aK (Ne.symm y)]
 have q':Q (.bl (if a0=b0 then(if decide (as=bs)=true then false else j4 bs as) else decide (b0<a0))) H:=by rw[eq]; exact q
 exact richCompare_meets_room (op:=.Gt) ⟨_,e,rfl⟩ ⟨_,e2,rfl⟩ F.slot_tuple_gt F.entry_tuple_gt (F.args_tuple_gt_2 _ _) (JG a b la lb a0 b0 k0 k2 _ _ n n2 dd dd2 sl sl2) ⟨e,e2,E,L,show Value.bool (if a0=b0 then(if decide (as=bs)=true then false else j4 bs as) else decide (b0<a0))≠Value.notImplemented/\_ from⟨(fun x=>nomatch x),bG I q' rfl⟩⟩ (by omega)
end
end L2
namespace L2
open PySem
def dC:List Addr->Hp->Hp
 | [],H=>H
 | a::as,H=>hid a (dC as H)
theorem qz:∀(as:List Addr) (H:Hp) (b:Addr),dC as H b=if b∈as then none else H b
 | [],H,b=>by simp[dC]
 | a::as,H,b=>by
  show hid a (dC as H) b=_
  by_cases e:b=a
  ·subst e; rw[j5]; simp
  ·rw[bW e,qz as H b]
   by_cases z:b∈as
   ·rw[aM z,aM (il _ z)]
   ·rw[aK z,aK (fun y=>(b8.mp y).elim e z)]
theorem rG {as:List Addr} {H:Hp} {b:Addr} {o:HO} (h:dC as H b=some o):b∉as/\H b=some o:=by
 rw[qz] at h
 by_cases z:b∈as
 ·rw[aM z] at h; cases h
 ·rw[aK z] at h; exact⟨z,h⟩
theorem cY {as:List Addr} {H:Hp} {b:Addr} (h:b∉as):dC as H b=H b:=by rw[qz,aK h]
theorem aP {as:List Addr} {H:Hp}:aC (dC as H) H:=fun b o h=>(rG h).2
def lJ (as:List Addr) (H H':Hp):Prop:=∀b o,b∉as->H b=some o->H' b=some o
theorem lJ.trans {as:List Addr} {H H1 H2:Hp} (x:lJ as H H1) (y:lJ as H1 H2):lJ as H H2:=fun b o n h=>y b o n (x b o n h)
theorem lJ.of {as:List Addr} {H H':Hp} (s:aC H H'):lJ as H H':=fun b o _ h=>s b o h
theorem lJ.one {as:List Addr} {a:Addr} {H H':Hp} (ha:a∈as) (s:SX a H H'):lJ as H H':=fun b o n h=>s.get (fun e=>n (e▸ha)) h
theorem lJ.hid {as:List Addr} {H H':Hp} (s:lJ as H H'):aC (dC as H) (dC as H'):=fun b o h=>by
 obtain⟨n,e⟩:=rG h
 rw[cY n]
 exact s b o n e
structure pK (H:Hp) (as:List Addr) (N:Nat):Prop where
 tp:∀a∈as,∃n,n<=N/\Tp H a n
theorem pK.same {H H':Hp} {as:List Addr} {N:Nat} (t:pK H as N) (s:aC H H'):pK H' as N:=⟨fun a ha=>by obtain⟨n,l,y⟩:=t.tp a ha; exact⟨n,l,y.same s⟩⟩
theorem pK.draw {H H':Hp} {as:List Addr} {N M n:Nat} {a:Addr} (t:pK H as N) (s:SX a H H') (y:Tp H' a n) (h1:n<=M) (h2:N<=M):pK H' as M:=⟨fun b hb=>by
 by_cases e:b=a
 ·subst e; exact⟨n,h1,y⟩
 ·obtain⟨m,l,⟨x1,x2,x3,h,r⟩⟩:=t.tp b hb
  exact⟨m,by omega,x1,x2,x3,s.get e h,r⟩⟩
theorem pK.out {H:Hp} {as:List Addr} {N:Nat} (t:pK H as N) {b:Addr} (h:∀xs,H b≠some (.lst xs)):b∉as:=fun hb=>by
 obtain⟨n,_,⟨_,_,_,e,_⟩⟩:=t.tp b hb
 exact h _ e
theorem pK.new {H:Hp} {as:List Addr} {N:Nat} (t:pK H as N) {b:Addr} (h:H b=none):b∉as:=t.out fun xs e=>by rw[h] at e; cases e
theorem pK.hid {H:Hp}:∀{as:List Addr} {N:Nat},as.Nodup->pK H as N->∀{d:PyData} {v:V},qm d=true->At H d v->At (dC as H) d v
 | [],_,_,_,_,_,_,e=>e
 | a::as,N,nd,t,d,v,h,e=>by
  have Oz:=Ft.mp nd
  have ih:=pK.hid (as:=as) (N:=N) Oz.2 ⟨fun b hb=>t.tp b (il _ hb)⟩ h e
  obtain⟨n,_,⟨x1,x2,x3,ht,_⟩⟩:=t.tp a jo
  exact At.tE (show dC as H a=_ by rw[cY Oz.1]; exact ht) d v h ih
theorem pK.Zq {H:Hp}:∀{as:List Addr} {N:Nat},as.Nodup->pK H as N->∀{ds:List PyData} {vs:List V},bF ds=true->aj H ds vs->aj (dC as H) ds vs
 | [],_,_,_,_,_,_,e=>e
 | a::as,N,nd,t,d,v,h,e=>by
  have Oz:=Ft.mp nd
  have ih:=pK.Zq (as:=as) (N:=N) Oz.2 ⟨fun b hb=>t.tp b (il _ hb)⟩ h e
  obtain⟨n,_,⟨x1,x2,x3,ht,_⟩⟩:=t.tp a jo
  exact aj.tE (show dC as H a=_ by rw[cY Oz.1]; exact ht) d v h ih
theorem iy.sxa {H H':Hp} {as:List Addr} {N:Nat} {m:Addr} {kvs:List (PyData×V)} (t:pK H as N) (s:lJ as H H') (n:iy H m kvs):iy H' m kvs:=by
 obtain⟨φ,e⟩:=n.ext
 refine n.keep ((s _ _ (t.out fun xs z=>by rw[e] at z; cases z) e).trans e.symm) fun b xs h=>s _ _ (t.out fun ys z=>by rw[h] at z; cases z) h
end L2
namespace L2
open PySem
theorem PL {as:List Addr} {H:Hp} {b:Addr} {o:HO} (h:b∈as):dC as (upd H b o)=dC as H:=by
 funext x
 rw[qz,qz]
 by_cases z:x∈as
 ·rw[aM z,aM z]
 ·rw[aK z,aK z,aL (fun e=>z (by rw[e]; exact h))]
theorem K4 {as:List Addr} {a:Addr} {H:Hp}:aC (dC (a::as) H) (dC as H):=fun b o h=>by
 obtain⟨n,e⟩:=rG h
 rw[cY (fun z=>n (il _ z))]
 exact e
end L2
namespace L2
open PySem PySem.Spec PyProof.Rows
section
variable {X:Cx}
end
section
variable {X:Cx}
end
section
variable {prog:Program} {w:World} {A:Around} {E:Value->Shared->Prop} {s:Shared}
theorem Sh:typeLookup (.type "list") "keys" = pure none:=by rw[typeLookup_type,builtinLookup_eq_fast]; kernel_rfl
theorem KR {a:Addr} {xs:Array Value} {k:Nat} {sl:Array (Option Value)} {Q:Option Value->Shared->Prop} (hx:s.heap.get? a=some { cls:=.type "list",dict:=none,data:=.seq xs k,slots:=sl }) (hA:A.handled=none)
  (h:∀h' tk,(∀b o,s.heap.get? b=some o->h'.get? b=some o)->Q none { s with heap:=h',toks:=tk }):wpAny (model prog w) A (getAttr? (.ref a) "keys") Q E s:=by
 obtain⟨hp,g,d,tk,os⟩:=s
 have hT:∀tk',(⟨hp,g,d,tk',os⟩:Shared).TypeIs (.ref a) "list" := fun _=>⟨_,hx,rfl⟩
 have f1:=sub_AttributeError
 have f3:=F.slot_list_getattribute.lookup
 have f4:=F.slot_list_getattribute.bind (.ref a)
 have f5:=am_list_getattr_none
 unfold getAttr? getAttrBy? getAttrBy
 repeat (any_goals (first | assumption | exact hT _ | ((with_reducible show wpAny _ _ (call (Value.builtin "list.__getattribute__") _ _) _ _ _); refine call_meets F.slot_list_getattribute (hT _) am_entry_list_getattribute (F.args_list_getattribute_2 _ _) (meets_getattribute_miss_list a xs k sl "keys" _ Sh (by decide +kernel)) ⟨hx,hA,fun h' tk' e hx'=>?_⟩) | wp_step))
 obtain⟨t',u',he⟩:=hx'.there
 show wpAny _ _ (getattributeRaised _ _ _ _ _ _ _) _ _ _
 unfold getattributeRaised
 repeat (any_goals (first | assumption | wp_step))
 exact h _ _ fun b o e=>hx'.keeps b o e
end
noncomputable def putAll (acc:List (PyData×V)) (kvs:List (PyData×V)):List (PyData×V):=kvs.foldl (fun a p=>putK a p.1 p.2) acc
structure Jt (H:Hp) (xs:List V) (kvs:List (PyData×V)):Prop where
 n:xs.length=kvs.length
 p:∀(i:Nat) (x:V) (q:PyData×V),xs[i]?=some x->kvs[i]?=some q->∃t y,x=.ref t/\H t=some (.tup [y,q.2])/\jj H q.1 y
theorem nG:plainId "dict.update.loop" = true:=by decide +kernel
theorem xU:entryFor table "dict.update.loop" = some Builtin.«dict.update.loop»:=entryFor_of_tree (by kernel_rfl)
theorem Nz (kvs:List (PyData×V)) (k:PyData) (v:V):(putK kvs k v).length<=kvs.length+1:=by
 unfold putK
 split
 ·rw[bR]; omega
 ·rw[gD]; exact cW _
section
variable {X:Cx} {pins:List (Addr×Obj)} {σ:St}
theorem Mj {p it l:Addr} {xs:List V} {kvs:List (PyData×V)}:∀(k i:Nat) (H:Hp) (s:Shared) (A:Around) (acc:List (PyData×V)) (R:Result->Shared->Prop),xs.length-i=k->i<=xs.length->xs.length<=1000->A.handled=none->A.units+61<cLine->Inv X pins σ H s->iy H p acc->acc.length<=i->H l=some (.lst xs)->Jt H xs kvs->s.heap.IsListIter it l i->ie X pins H it ->
  (∀H' s',Inv X pins σ H' s'->iy H' p (putAll acc (kvs.drop i))->(∃φ,H'=upd H p (.ext φ))->R (.ok (.ret .none)) s') ->
  wpAny (model X.prog X.w) A.in1 (Builtin.«dict.update.loop» ⟨[.ref p,.ref it,rawInt i,.none],[]⟩) (fun fin s'=>match fin with | .done f=>R (.ok f) s' | .again c'=>c'.quiet=true/\codeAny (model X.prog X.w) A c' R s') (fun e s'=>R (.error e) s') s:=by
 intro k
 induction k with
 | zero=>
  intro i H s A acc R hk hi hz hh hu I n hacc hl P hit fp q
  have ei:i=xs.length:=by omega
  obtain⟨_,its,m,r,e⟩:=I.hok l _ hl
  have hL:s.heap.IsList l its.toArray:=⟨_,e,rfl,_,rfl⟩
  have hx:its.toArray[i]?=none:=by rw[HF,List.getElem?_eq_none_iff,<- r.length]; omega
  unfold Builtin.«dict.update.loop»
  refine aN (wpAny_pyNext_list_end hh hit hL hx fun h' ex=>?_)
  dsimp only
  unfold Builtin.Dict.addKeywords
  wp_walk
  have I':Inv X pins σ H { s with heap:=h' }:=I.turned (it:=it) (t':=s.toks) (fun b o nb eb=>ex b o nb eb) fp.1 fp.2.1 fp.2.2.2.1 fp.2.2.2.2.1 fp.2.2.2.2.2
  obtain⟨φ,hφ⟩:=n.ext
  refine q H _ I' ?_ ⟨φ,?_⟩
  ·rw[ei,P.n,Ce]; exact n
  ·funext b
   by_cases z:b=p
   ·rw[z,az,hφ]
   ·rw[aL z]
 | succ k ih=>
  intro i H s A acc R hk hi hz hh hu I n hacc hl P hit fp q
  obtain⟨_,its,m,r,e⟩:=I.hok l _ hl
  have hL:s.heap.IsList l its.toArray:=⟨_,e,rfl,_,rfl⟩
  have hxl:i<xs.length:=by omega
  obtain⟨u,hu1,ru⟩:=Bp r (eV hxl)
  have hkl:i<kvs.length:=by rw[<- P.n]; exact hxl
  have hdr:kvs.drop i=kvs[i]::kvs.drop (i+1):=Cu hkl
  obtain⟨t,y,et,ht,ky⟩:=P.p i _ _ (eV hxl) (eV hkl)
  generalize kvs[i]=kq at hdr ht ky
  rw[et] at ru
  cases ru
  unfold Builtin.«dict.update.loop»
  refine aN (wpAny_pyNext_list_item hit hL (by rw[HF]; exact hu1) fun h' hit' sb=>?_)
  have I':Inv X pins σ H { s with heap:=h' }:=I.turned (it:=it) (t':=s.toks) (fun b o nb eb=>(sb.2 b nb).trans eb) fp.1 fp.2.1 fp.2.2.2.1 fp.2.2.2.2.1 fp.2.2.2.2.2
  obtain⟨_,ts,rt,⟨cls,dd,data,sl⟩,e1,hc,m1,hd⟩:=I'.hok t _ ht
  simp only at hc hd
  subst hc hd
  obtain⟨w0,w1,rfl,r0,r1⟩:=rt.two
  obtain⟨b,rfl,rfl⟩:=ky.ref r0
  dsimp only
  have hT:({ s with heap:=h' }:Shared).TypeIs (.ref t) "tuple" := ⟨_,e1,rfl⟩
  refine aN (oO ?_)
  unfold Builtin.Dict.pairItems
  refine aN (Fp (aN (ym hT ?_)))
  rw[aM (by decide)]
  refine aN (oU e1 rfl (bK ?_))
  obtain⟨ys,ey,rel,dd',z,hd⟩:=Ib I' n
  have hl':ys.length=acc.length:=(Paired.length rel).symm
  have hst:=Bv ys kq.1 b w1
  refine oO (wpAny_dictSet_heap (hsz:=z) (show(bu X.prog X.w).room A.in1 by show A.units+1+60<cLine; omega) (qp I'.hok ky.1 ky.2) dd' fun h2 dd2 hs=>?_)
  obtain⟨I2,n2⟩:=Ov (t':=s.toks+(bu X.prog X.w).draws kq.1) I' ey hs dd2 (by have:=bj (n:=ys.length+1) (by omega); omega) hd (KN.put rel ky.1 ky.2 r1)
  have npH:∀c,H c=none->c≠p:=fun c hc z=>by rw[z,ey] at hc; cases hc
  have Zb:=npH it fp.1
  have tup:∀c zs,H c=some (.tup zs)->upd H p (LC p (storedH ys kq.1 b w1)) c=some (.tup zs):=fun c zs hc=>by
   rw[aL (fun z=>by rw[z,ey] at hc; cases hc)]; exact hc
  refine bK ⟨plainId_quiet nG _,codeAny_builtin xU ?_⟩
  ·rw[Around.under_plainId nG _]
   refine ih (i+1) _ _ A (putK acc kq.1 kq.2) R (by omega) (by omega) hz hh hu I2 n2 ?_ ?_ ⟨P.n,fun j x q' h1 h2=>?_⟩ ?_ ⟨?_,fp.2⟩ ?_
   ·have:=Nz acc kq.1 kq.2; omega
   ·rw[aL (fun z=>by rw[z,ey] at hl; cases hl)]; exact hl
   ·obtain⟨t2,y2,a1,a2,a3⟩:=P.p j x q' h1 h2
    exact⟨t2,y2,a1,tup _ _ a2,a3.1,At.tupS tup _ _ (jb _ a3.1.k).2.2 a3.2⟩
   ·exact Heap.IsListIter.at hit' fun o eo=>(hs.2 _ Zb).trans eo
   ·rw[aL Zb]; exact fp.1
   ·rintro H' s' J1 J2 ⟨φ,rfl⟩
    refine q _ s' J1 ?_ ⟨φ,?_⟩
    ·rw[hdr]; exact J2
    ·funext c
     by_cases z:c=p
     ·rw[z,az,az]
     ·rw[aL z,aL z,aL z]
end
section
variable {X:Cx}
theorem GD (hu:X.A.units+64<cLine) (hc:X.calm=true):dI X (.type "dict") (fun vs H Q=>∃(l:Addr) (xs:List V) (kvs:List (PyData×V)),vs=[.ref l]/\H l=some (.lst xs)/\xs.length<=1000/\Jt H xs kvs/\∀p H',H p=none->aC H H'->iy H' p (putAll [] kvs)->(∃φ,H'=upd H p (.ext φ))->Q (.ref p) H'):=by
 refine .mk ?_
 intro pins s σ H vs us Q I rv h
 obtain⟨l,xs,kvs,rfl,hl,hz,P,q⟩:=h
 obtain⟨u,rfl,ru⟩:=rv.one
 cases ru
 have hh:X.A.handled=none:=I.ok.hd hc
 have hf:=I.hok.fresh (cW s.heap.objs.size)
 have I1:=I.laid (a:=s.heap.objs.size) (o:=LC s.heap.objs.size []) (t':=s.toks) (fun _ _ q=>gb _ q) (cW _) (U5 (Ox I.big))
 have n1:iy (upd H s.heap.objs.size (LC s.heap.objs.size [])) s.heap.objs.size []:=⟨[],az,.nil⟩
 have s1:=aO hf (LC s.heap.objs.size [])
 refine callType_codes (Q₁:=fun obj s₁=>obj=.ref s.heap.objs.size/\s₁={ s with heap:=s.heap.push { cls:=.type "dict",data:=.dict #[] } }) F.kt_called_dict (F.kt_typeCall_dict_1 _) F.entry_dict_init (kt_code_dict_new _ ⟨rfl,rfl⟩) ?_
 rintro obj s₁ ⟨rfl,rfl⟩
 have hT:=Ku I1 n1
 refine⟨hT,F.args_dict_init_2 _ _,?_⟩
 unfold Builtin.«dict.__init__»
 refine aN ?_
 unfold Builtin.Dict.selfAndRest
 refine aN (wpAny_notOrdered_dict hT ?_)
 show wpAny _ _ (pure (s.heap.objs.size,[Value.ref l])) _ _ _
 refine bK ?_
 show wpAny _ _ (Builtin.Dict.updateFrom "dict.__init__" s.heap.objs.size (.ref l) [] .none) _ _ _
 unfold Builtin.Dict.updateFrom
 obtain⟨_,its,m,r,e⟩:=I1.hok l _ (s1 _ _ hl)
 refine aN (ym ⟨_,e,rfl⟩ ?_)
 rw[aM (by decide)]
 refine aN (KR e hh fun h' tk k=>?_)
 rw[aM (by decide)]
 refine aN (uQ ?_)
 have I2:=I1.kept (t':=tk) k
 have hL:h'.IsList l its.toArray:=⟨_,k _ _ e,rfl,_,rfl⟩
 refine aN (Hw hL ?_)
 have I3:=I2.kept (t':=tk) (h':=h'.push { cls:=.type "list_iterator",data:=.fields #[.ref l,.int 0 0] }) fun b o eb=>gb _ eb
 have fi:=I2.hok.fresh (cW h'.objs.size)
 refine bK ⟨plainId_quiet nG _,codeAny_builtin xU ?_⟩
 rw[Around.under_plainId nG _]
 refine Mj (kvs:=kvs) xs.length 0 _ _ X.A.in1 [] _ (by omega) (e_ _) hz hh (by show X.A.units+1+61<cLine; omega) I3 n1 (e_ _) (s1 _ _ hl) ⟨P.n,fun j x q' h1 h2=>?_⟩ ⟨_,dX _ rfl,rfl,rfl⟩ (I2.xF (cW _) fi) ?_
 ·obtain⟨t2,y2,a1,a2,a3⟩:=P.p j x q' h1 h2
  exact⟨t2,y2,a1,s1 _ _ a2,a3.1,a3.2.mono s1⟩
 ·rintro H' s' J1 J2 ⟨φ,rfl⟩
  have eu:upd (upd H s.heap.objs.size (LC s.heap.objs.size [])) s.heap.objs.size (.ext φ)=upd H s.heap.objs.size (.ext φ):=by
   funext c
   by_cases z:c=s.heap.objs.size
   ·rw[z,az,az]
   ·rw[aL z,aL z,aL z]
  rw[eu] at J1 J2
  exact⟨rfl,.ref s.heap.objs.size,_,J1,rfl,q _ _ hf (aO hf _) J2 ⟨φ,rfl⟩⟩
end
section
variable {prog:Program} {w:World} {A:Around} {E:Value->Shared->Prop} {s:Shared}
end
section
variable {X:Cx} {pins:List (Addr×Obj)} {σ:St} {H1:Hp} {s1 s':Shared}
end
section
variable {X:Cx}
end
theorem tO.mk3 {X:Cx} {x y z y':Str} {sc:Scope} {j j2 j3:Nat} (hj:X.N[j]?=some y:=by rfl) (hj2:X.N[j2]?=some z:=by rfl) (hj3:X.N[j3]?=some y':=by rfl) (k:sc.kind=.function:=by rfl) (n:(sc.names.all fun y=>y.2 != .cell)=true:=by decide +kernel)
  (l:(sc.names.all fun y=>y.2 != .local || sc.names.lookup y.1==some .local)=true:=by decide +kernel) (al:(sc.names.all fun y=>y.2 != .free || (X.env.cells.lookup y.1).isSome)=true:=by rfl)
  (k1:X.env.kindOf y=some .cell:=by rfl) (k2:sc.names.lookup y=some .free:=by rfl) (k3:X.env.kindOf z=some .cell:=by rfl) (k4:sc.names.lookup z=some .free:=by rfl)
  (k5:X.env.kindOf y'=some .cell:=by rfl) (k6:sc.names.lookup y'=some .free:=by rfl):tO X [x,y,z,y'] [j,j2,j3] sc:=by
 have n':∀y∈sc.names,y.2≠.cell:=fun y hy=>by have:=wX.mp n y hy; simpa using this
 refine⟨k,n',mV l,jg al,al,rfl,fun i j' h=>?_,fun v h=>?_⟩
 ·match i,h with
  | 0,h=>simp at h; subst h; exact hj.symm
  | 1,h=>simp at h; subst h; exact hj2.symm
  | 2,h=>simp at h; subst h; exact hj3.symm
  | i+3,h=>simp at h
 ·have e:v=y\/v=z\/v=y':=by simpa using h
  rcases e with e | e | e
  ·subst e; exact⟨k1,k2⟩
  ·subst e; exact⟨k3,k4⟩
  ·subst e; exact⟨k5,k6⟩
end L2
namespace K84
open PySem L2
def top (i:Nat):Stmt:=PySem.Challenge.pw_waithands_k84_whole_loads_walked_in_entr.main.body.getD i (.Pass ⟨0,0,0,0⟩)
abbrev uH:Stmt:=top 6
abbrev kE:Stmt:=top 7
abbrev Fj:Stmt:=top 8
abbrev jB:Stmt:=top 9
abbrev Fi:Stmt:=top 11
abbrev mD:Stmt:=top 12
abbrev oK:Stmt:=top 13
abbrev oN:Stmt:=top 16
abbrev Fl:Stmt:=top 18
abbrev gB:Stmt:=top 19
abbrev mG:Stmt:=top 20
abbrev jy:Stmt:=top 21
abbrev mC:Stmt:=top 22
abbrev uD:Stmt:=top 29
abbrev uF:Stmt:=top 30
abbrev ig:Stmt:=top 31
abbrev mH:Stmt:=top 32
abbrev mF:Stmt:=top 33
abbrev jz:Stmt:=top 34
abbrev Nj:Stmt:=top 40
abbrev uG:Stmt:=top 41
abbrev jA:Stmt:=top 42
abbrev uE:Stmt:=top 43
abbrev jC:Stmt:=top 44
abbrev jD:Stmt:=top 45
abbrev kJ:Stmt:=top 46
abbrev uI:Stmt:=top 47
abbrev uM:Stmt:=top 48
abbrev kO:Stmt:=top 49
abbrev qU:Stmt:=top 50
abbrev uK:Stmt:=top 52
abbrev uL:Stmt:=top 53
abbrev zE:Stmt:=top 54
abbrev iW:Stmt:=top 55
abbrev ik:Stmt:=top 56
abbrev qX:Stmt:=top 57
abbrev zH:Stmt:=top 58
abbrev kI:Stmt:=top 59
abbrev oM:Stmt:=top 60
abbrev iY:Stmt:=top 61
abbrev iV:Stmt:=top 62
abbrev uJ:Stmt:=top 63
structure Bi (mg:Str->Option Value):Prop where
 tuple:mg "tuple" = none
 max:mg "max" = none
 min:mg "min" = none
 enumerate:mg "enumerate" = none
 zip:mg "zip" = none
 sum:mg "sum" = none
 list:mg "list" = none
 reversed:mg "reversed" = none
 range:mg "range" = none
 len:mg "len" = none
 set:mg "set" = none
 abs:mg "abs" = none
 int:mg "int" = none
 dict:mg "dict" = none
structure Co (K:PySem.W.Frag) (mg:Str->Option Value):Prop where
 Vd:GT2 K mg "WHATS" T_
 OVER:Gs mg "OVER" "over"
 UNDER:Gs mg "UNDER" "under"
 EACH:Gs mg "EACH" "each"
 Xa:Gi mg "MOST_HANDS" 12
 Be:Gi mg "TRIPLES_SEEN" 3
 LIMIT:Gi mg "LIMIT" 300
 zb:Gi mg "MOST_COME" 23
 KEPT:Gs mg "KEPT" "kept"
 BROKEN:Gs mg "BROKEN" "broken"
local macro_rules | `(tactic| walk_at "o")=>`(tactic| first | exact Or.inl rfl | exact Or.inr rfl)
local macro_rules | `(tactic| walk_at "c")=>`(tactic| exact⟨rfl,rfl,rfl,by decide +kernel,rfl,by decide +kernel,by decide +kernel⟩)
local macro_rules | `(tactic| walk_at "rd")=>`(tactic| simp only[L2.start,kW,yj,nU,List.length_nil,Nat.reduceAdd,Nat.reduceSub,List.replicate,yz,Fq,mL,
 Mx,Q_,Yi,Yh,Ul,JK,d8,Up,Rp,Ro,Np,Ru,if_true,if_false,jn,zM,Bool.not_false,Rt,Rr,VN,Nm,VM,Nk,Rv,Rx,Nq,Rq,VL,YG,tC,Uk,tUn,Ry,rI,rU,Ug,Yo,tOr,Yl,Ur,Yj,Yk,tIf,rQ,Vx,G_,Q9,tB,Vw,tSl,GZ,Ui,Zu,Q8,Ym,aaJ,Uo,Mw,tBM,Yn,Uj,Uq,ipI,Um,Vv,tFv,tJs,tJ1,tJ0,aaK,MK,My,xPe,T9,xIf,X7,X8,aaD,xPs,aaC,Uh,Ux,Uw,Uy])
section
variable {P:Program} {w:World} {K:PySem.W.Frag} {mg:Str->Option Value} {base:Heap} {f:Addr} {fd:FuncData} {k:Nat}
theorem Dk {X:Cx}:oG X (binaryOp .FloorDiv) (rI (fun _ j=>0<j/\j<10 ^ 60) fun i j=>.int (i / j)):=Y8 fun i j _ _ _ _ _ hc q=>by
 have h1:(0:Int)<j:=hc.1
 have h2:j<10 ^ 60:=hc.2
 refine PyProof.Rows.floordiv_int (by omega) (by rw[Int.fdiv_eq_ediv_of_nonneg i (by omega)]; exact q) (.inl (PyProof.noPylong_of_log2 ?_))
 have:j.natAbs<10 ^ 60:=by omega
 by_cases z:j.natAbs=0
 ·omega
 ·have h3:j.natAbs<2 ^ 1000:=Cy this (by decide +kernel)
  have:=(Nat.log2_lt z).mpr h3
  omega
structure fZ where
 w:Str
 s:Nat
 g:Str
 n:Int
 t:Int
def p_ (r:fZ):PyData:=.tuple [.str r.w,.int r.s,.str r.g,.int r.n,.int r.t]
def oA (rs:List fZ):PyData:=.tuple (rs.map p_)
def zK (eU:List (List fZ)):PyData:=.tuple (eU.map oA)
structure oE (r:fZ):Prop where
 w:r.w∈(["come","done","wait"]:List Str)
 s:1<=r.s/\r.s<=4
 n:0<=r.n/\r.n<=1000000000000000000000000000000
 e:r.g = "each" -> 1<=r.n
def dh (l:List Int):PyData:=.tuple (l.map .int)
def Ey (dM:List (List Int)):PyData:=.tuple (dM.map dh)
structure pM (dM:List (List Int)):Prop where
 n:dM.length=4
 l:∀x∈dM,x.length=3
def lW (w:Str) (s:Nat) (dM:List (List Int)):Int:=((dM.take s).map fun l=>l.getD (eY w) 0).sum
def says (r:fZ) (h:Int) (dM:List (List Int)):Option Int:=
 if r.g = "each" then some ((lW r.w r.s dM+r.n*r.s-1) / (r.n*r.s))
 else if(r.g = "over" /\ lW r.w r.s dM>r.n*r.s)\/(r.g = "under" /\ lW r.w r.s dM<r.n*r.s) then some (h+r.t) else none
def Uu:Option Int->V
 | none=>.non
 | some i=>.int i
def gr (h:Int) (dM:List (List Int)):List fZ->Int
 | []=>h
 | r::rs=>match says r h dM with
  | some i=>i
  | none=>gr h dM rs
def topOf (h:Int):List Int->Int
 | []=>h
 | b::r=>dJ b r
def pN (eU:List (List fZ)) (l m h:Int) (dM:List (List Int)):Int:=
 let x:=topOf h (eU.map (gr h dM))
 let y:=if l>x then l else x
 if m<y then m else y
theorem xQ (w:Str):eY w<3:=by
 unfold eY
 split
 ·decide
 ·split <;> decide
theorem bB {H:Hp} {ds:List PyData} {v:V} (h:At H (.tuple ds) v):∃a xs,v=.ref a/\H a=some (.tup xs)/\aj H ds xs:=by unfold At at h; exact h
theorem aj.aX {H:Hp} {d:PyData} {ds:List PyData} {xs:List V} (h:aj H (d::ds) xs):∃x r,xs=x::r/\At H d x/\aj H ds r:=by unfold aj at h; exact h
theorem aj.lV {H:Hp} {xs:List V} (h:aj H [] xs):xs=[]:=by unfold aj at h; exact h
theorem cg {G:Hp}:∀{cs:List Int} {xs:List V},aj G (cs.map PyData.int) xs->xs=cs.map V.int
 | [],xs,h=>by unfold aj at h; exact h
 | c::cs,xs,h=>by
  obtain⟨x,r,rfl,h1,h2⟩:=aj.aX h
  unfold At at h1
  rw[h1,cg h2]; rfl
theorem bD {H:Hp}:∀cs:List Int,aj H (cs.map .int) (cs.map V.int)
 | []=>aj.nil
 | c::cs=>aj.cons (At.int c) (bD cs)
theorem row_shape {H:Hp} {r:fZ} {v:V} (h:At H (p_ r) v):∃a,v=.ref a/\H a=some (.tup [.str r.w,.int r.s,.str r.g,.int r.n,.int r.t]):=by
 obtain⟨a,xs,rfl,h1,h2⟩:=bB h
 obtain⟨x1,_,rfl,a1,h2⟩:=aj.aX h2
 obtain⟨x2,_,rfl,a2,h2⟩:=aj.aX h2
 obtain⟨x3,_,rfl,a3,h2⟩:=aj.aX h2
 obtain⟨x4,_,rfl,a4,h2⟩:=aj.aX h2
 obtain⟨x5,_,rfl,a5,h2⟩:=aj.aX h2
 cases aj.lV h2
 unfold At at a1 a2 a3 a4 a5
 subst a1 a2 a3 a4 a5
 exact⟨a,rfl,h1⟩
theorem Ji {K:PySem.W.Frag} {js:List Nat} {a:Addr} {xs:List V} {ds:List PyData} {f:Nat->Int} {tl te:TE} {σ:St} {H:Hp} {Q:VK} (hl:∀R:VK,R (.ref a) H->tl σ H R) (ha:H a=some (.tup xs)) (hd:aj H ds xs) (hz:ds.length<=sizeLine)
  (step:∀(i:Nat) x d H',aC H H'->ds[i]?=some d->At H' d x->∀R:VK,(∀cZ,aC H' cZ->R (.int (f i)) cZ)->te (some x::bO js σ) H' R)
  (fin:∀acc H',aC H H'->H' acc=some (.lst (((List.range ds.length).map f).map V.int))->Q (.ref acc) H'):gq js (xq K tl) te σ H Q:=by
 refine hl _ ⟨a,rfl,⟨xs,cA.of ha⟩,fun acc hacc=>?_⟩
 have hlen:=hd.length
 refine⟨fun i m ys H2=>m=ds.length-i/\i<=ds.length/\ys=((List.range i).map f).map V.int/\aC H H2/\H2 acc=some (.lst ys),⟨_,rfl,e_ _,rfl,aO hacc _,az⟩,?_⟩
 rintro i m ys H2 ⟨rfl,hi,rfl,sm,hy⟩
 have ht:cA K H2 a xs:=cA.of (sm _ _ ha)
 by_cases hlt:i<ds.length
 ·refine .inr ⟨⟨xs,xs[i]'(by omega),ht,eV (by omega)⟩,fun x H3 y=>?_⟩
  obtain⟨e,y⟩:=y
  subst e
  obtain⟨d,e1,e2⟩:=hd.get (y xs ht)
  refine step i x d _ sm e1 (e2.mono sm) _ fun H4 s4=>⟨s4 _ _ hy,?_,ds.length-(i+1),by omega,rfl,hlt,?_,?_,az⟩
  ·rw[bR,bR,Hv]; omega
  ·rw[List.range_succ]; simp
  ·refine fun b o q=>?_
   have nb:b≠acc:=bV q hacc
   rw[aL nb]
   exact s4 _ _ (sm _ _ q)
 ·have e:i=ds.length:=by omega
  subst e
  exact .inl ⟨⟨xs,ht,by omega⟩,fin _ _ sm hy⟩
def CT (K:PySem.W.Frag) (js:List Nat) (te:TE) (σ:St) (Q:VK) (x:V) (H1:Hp):Prop:=gq js (xq K (fun _ H R=>R x H)) te σ H1 Q
theorem xV {K:PySem.W.Frag} {js:List Nat} {tl te:TE} {σ:St} {H:Hp} {Q:VK}:gq js (xq K tl) te σ H Q=tl σ H (CT K js te σ Q):=rfl
def Fd:Sp:=fun vs H Q _=>∃(v u:V) (h:Int) (r:fZ) (dM:List (List Int)),vs=[v,.int h,u]/\At H (p_ r) v/\At H (Ey dM) u/\oE r/\pM dM/\∀H',aC H H'->Q (Uu (says r h dM)) H'
theorem ace.of {v u:V} {h:Int} {r:fZ} {dM:List (List Int)} {H:Hp} {Q:VK} {E:XK} (a1:At H (p_ r) v) (a2:At H (Ey dM) u) (h1:oE r) (h2:pM dM) (q:∀H',aC H H'->Q (Uu (says r h dM)) H'):Fd ([v,.int h,u]++[]) H Q E:=⟨v,u,h,r,dM,rfl,a1,a2,h1,h2,q⟩
theorem wR {dM:List (List Int)} {w:Str} {s:Nat}:((List.range (dM.take s).length).map fun i=>((dM.take s).getD i []).getD (eY w) 0).sum=lW w s dM:=by
 unfold lW
 congr 1
 generalize dM.take s=l
 apply Hs
 ·simp
 ·intro i h1 h2
  simp at h1 h2
  simp[iB,h2]
theorem rR:aR ["row","hands","newest","what","span","sign","number","step","place","total","mark"] ["row","hands","newest"] (aH oK):=(by walk_at "c")
theorem Dl (F:jk K "row_says" "row_says" oK f fd) (B:Bi mg) (O:Co K mg):bM P w K mg base iH (k+1) f fd ["row","hands","newest"] Fd:=by
 refine F.ok rR (by rintro vs H Q E ⟨v,u,h,r,dM,rfl,_⟩; rfl) (fun cdv A outer s H vs Q E hr h=>?_)
 obtain⟨v,u,h,r,dM,rfl,a1,a2,hR,hN,q⟩:=h
 have ND:=rR.nd
 refine⟨_,(aq (dN (pv 0) (bJ (K:=K) (n:=5) rfl rfl (aD (aF (i:=3) ND rfl (by walk_at "o")) (aD (aF (i:=4) ND rfl (by walk_at "o")) (aD (aF (i:=5) ND rfl (by walk_at "o")) (aD (aF (i:=6) ND rfl (by walk_at "o")) (aD (aF (i:=7) ND rfl (by walk_at "o")) bI))))))) (aq (a_ (i:=8) ND rfl (by walk_at "o") (vo (K:=K) rfl PySem.F.plainAttrs_tuple PySem.F.slot_tuple_index PySem.F.type_tuple_index (Kw (K:=K) rfl) (HS (K:=K) rfl O.Vd) (aa (pv 3) ak))) (aq (a_ (i:=9) ND rfl (by walk_at "o") (pb (yP rfl) B.sum Qv (aa (gP (N':=["triple","place"]) (js:=[8]) rfl (jr (K:=K) rfl (dR gO (pv 2) fW (eX (pv 4)))) tO.mk1 rfl (by decide) rfl (fun fp s' H'=>(bz aU (pv 0) (pv 1) (fun _ _=>rfl)))) ak))) (aq (a_ (i:=10) ND rfl (by walk_at "o") (aZ kY (pv 6) (pv 4))) (aq (dG (bw mU (pv 5) (rm O.EACH) (bA _)) (aJ (aV (aZ Dk (aZ iu (aZ bN (pv 9) (pv 10)) ao) (pv 10)))) bT) (aq (dG (PW.pt (CZ (PW.pt (u_ (bw mU (pv 5) (rm O.OVER) (bA _)) (qe (bw lO (pv 9) (pv 10) (bA _))))) (uZ (PW.pt (u_ (bw mU (pv 5) (rm O.UNDER) (bA _)) (qe (bw Dj (pv 9) (pv 10) (bA _)))))))) (aJ (aV (aZ bN (pv 1) (pv 7)))) bT) (aJ (aV dU)))))))),?_⟩
 obtain⟨a,rfl,h1⟩:=row_shape a1
 obtain⟨b,xs,rfl,h2,h3⟩:=bB a2
 walk_at "rd"
 refine⟨a,_,rfl,cA.of h1,rfl,?_⟩
 walk_at "rd"
 intro aw ho hw
 refine⟨.inr (.inl ⟨rfl,ho⟩),aw,r.w,rfl,hw _,rfl,hR.w,?_⟩
 show gq _ _ _ _ _ _
 rw[xV]
 walk_at "rd"
 refine⟨b,xs,rfl,h2,fun p H1 s1 e1=>?_⟩
 rw[rM (by omega),uU] at e1
 have h3':aj H1 ((dM.take r.s).map dh) (xs.take r.s):=by rw[List.map_take]; exact(h3.take r.s).mono s1
 have hs4:=hR.s
 have htl:(dM.take r.s).length<=4:=by rw[nW]; omega
 refine Ji (a:=p) (f:=fun i=>((dM.take r.s).getD i []).getD (eY r.w) 0) (fun R hR=>hR) e1 h3' (iz (bj (by rw[bR]; omega))) (fun i x d H' s' ed hx R hR'=>?_) (fun acc H' s' hl=>?_)
 ·rw[g8] at ed
  obtain⟨l,el,rfl⟩:=nY.mp ed
  have l3:l.length=3:=hN.l l (List.mem_of_mem_take (jW el))
  obtain⟨c,ys,rfl,g1,g2⟩:=bB hx
  cases cg g2
  show Uk _ _ _ [some _,some (.int (eY r.w:Nat))] H' R
  walk_at "rd"
  have hw:=xQ r.w
  refine Ix.tup g1 (v:=.int (l.getD (eY r.w) 0)) (bx (by rw[g8,eV (by omega),iB,eV (by omega)]; rfl)) ?_
  have:=hR' H' (aC.refl H')
  have eg:(dM.take r.s).getD i []=l:=by rw[iB,el]; rfl
  rw[eg] at this
  exact this
 ·have sm:=s1.trans s'
  rw[bR] at hl
  refine⟨acc,_,rfl,.inl hl,.inr (by have:=hR.s; omega),?_⟩
  rw[wR]
  have q1:=q H' sm
  unfold says at q1
  refine iw (fun c1=>?_) (fun c1=>?_)
  ·have c1':=uV c1
   rw[aM c1'] at q1
   have h1n:=hR.e c1'
   have hpos:0<r.n*(r.s:Int):=Int.mul_pos (by omega) (by omega)
   have hup:r.n*(r.s:Int)<=1000000000000000000000000000000*4:=Int.mul_le_mul hR.n.2 (by omega) (by omega) (by decide)
   exact⟨⟨hpos,Int.lt_of_le_of_lt hup (by decide)⟩,q1⟩
  ·have c1':=Fx c1
   rw[aK c1'] at q1
   generalize lW r.w r.s dM=tot at q1 ⊢
   generalize r.n*(r.s:Int)=mark at q1 ⊢
   by_cases o1:r.g = "over"
   ·have u1:¬r.g = "under" := by rw[o1]; decide +kernel
    rw[iC o1,aM rfl]
    by_cases o2:mark<tot
    ·rw[iC o2,aM rfl]
     rw[aM (.inl ⟨o1,o2⟩)] at q1; exact q1
    ·rw[fH o2,aK (by decide),fH u1,aK (by decide)]
     rw[aK (fun z=>by rcases z with z | z; exact o2 z.2; exact u1 z.1)] at q1; exact q1
   ·rw[fH o1,aK (by decide)]
    by_cases u1:r.g = "under"
    ·rw[iC u1,aM rfl]
     by_cases o2:tot<mark
     ·rw[iC o2,aM rfl]
      rw[aM (.inr ⟨u1,o2⟩)] at q1; exact q1
     ·rw[fH o2,aK (by decide)]
      rw[aK (fun z=>by rcases z with z | z; exact o1 z.1; exact o2 z.2)] at q1; exact q1
    ·rw[fH u1,aK (by decide)]
     rw[aK (fun z=>by rcases z with z | z; exact o1 z.1; exact u1 z.1)] at q1; exact q1
def VB:Sp:=fun vs H Q _=>∃(v u:V) (h:Int) (rs:List fZ) (dM:List (List Int)),vs=[v,.int h,u]/\At H (oA rs) v/\At H (Ey dM) u/\(∀r∈rs,oE r)/\pM dM/\∀H',aC H H'->Q (.int (gr h dM rs)) H'
theorem Rw.of {v u:V} {h:Int} {rs:List fZ} {dM:List (List Int)} {H:Hp} {Q:VK} {E:XK} (a1:At H (oA rs) v) (a2:At H (Ey dM) u) (h1:∀r∈rs,oE r) (h2:pM dM) (q:∀H',aC H H'->Q (.int (gr h dM rs)) H'):VB ([v,.int h,u]++[]) H Q E:=⟨v,u,h,rs,dM,rfl,a1,a2,h1,h2,q⟩
theorem pW:aR ["rule","hands","newest","row","said"] ["rule","hands","newest"] (aH mD):=(by walk_at "c")
theorem zW (F:jk K "rule_wish" "rule_wish" mD f fd) (pG:Ct P w K mg base k "row_says" ["row","hands","newest"] Fd):bM P w K mg base iH (k+1) f fd ["rule","hands","newest"] VB:=by
 refine F.ok pW (by rintro vs H Q E ⟨v,u,h,r,dM,rfl,_⟩; rfl) (fun cdv A outer s H vs Q E hr h=>?_)
 obtain⟨v,u,h,rs,dM,rfl,a1,a2,hR,hN,q⟩:=h
 have ND:=pW.nd
 refine⟨_,(aq (oW PassesOwn.never rfl (jr (K:=K) rfl (pv 0)) (aF (i:=3) ND rfl (by walk_at "o")) (aq (a_ (i:=4) ND rfl (by walk_at "o") (pf pG hr (aa (pv 3) (aa (pv 1) (aa (pv 2) ak))))) (aJ (dG (bw qi (pv 4) dU (bA _)) (aJ (aV (pv 4))) bT)))) (aJ (aV (pv 1)))),?_⟩
 obtain⟨a,xs,rfl,h1,h2⟩:=bB a1
 have hlen:=h2.length
 rw[bR] at hlen
 walk_at "rd"
 rw[Mz]
 walk_at "rd"
 refine TK.of h1 (fun n σ H'=>∃o1 o2,σ=[some (.ref a),some (.int h),some u,o1,o2]/\aC H H'/\gr h dM (rs.drop n)=gr h dM rs) ⟨_,_,rfl,aC.refl H,rfl⟩ (fun n σ H' _ ⟨o1,o2,_,sm,_⟩=>sm _ _ h1) ?_ ?_
 ·rintro n x σ H1 hx ⟨o1,o2,rfl,sm,e⟩
  obtain⟨d,e1,e2⟩:=h2.get hx
  rw[g8] at e1
  obtain⟨r,er,rfl⟩:=nY.mp e1
  have hn:n<rs.length:=by
   obtain⟨z,_⟩:=fK.mp er; exact z
  have ed:rs.drop n=r::rs.drop (n+1):=by
   rw[Cu hn]
   obtain⟨z,ez⟩:=fK.mp er
   rw[ez]
  rw[ed,gr] at e
  walk_at "rd"
  refine ace.of (e2.mono sm) (a2.mono sm) (hR r (jW er)) hN fun H2 s2=>?_
  have s2:=sm.trans s2
  cases es:says r h dM with
  | none=>
   rw[es] at e
   refine⟨trivial,?_⟩
   exact⟨_,_,rfl,s2,e⟩
  | some i=>
   rw[es] at e
   refine⟨trivial,?_⟩
   have e:i=gr h dM rs:=e
   show Q (.int i) H2
   rw[e]; exact q H2 s2
 ·rintro σ H1 ⟨o1,o2,rfl,sm,e⟩
  walk_at "rd"
  rw[hlen,Ce] at e
  have e:h=gr h dM rs:=e
  rw[e]
  have:=q H1 sm
  rw[<- e] at this ⊢
  exact this
def N6 (d0 d1 d3 d4 d5:PyData) (l m:Int) (eU:List (List fZ)):PyData:=.tuple [d0,d1,.tuple [.int l,.int m],d3,d4,d5,zK eU]
def MT:Sp:=fun vs H Q _=>∃(v u:V) (h l m:Int) (d0 d1 d3 d4 d5:PyData) (eU:List (List fZ)) (dM:List (List Int)),vs=[v,.int h,u]/\At H (N6 d0 d1 d3 d4 d5 l m eU) v/\At H (Ey dM) u/\(∀rs∈eU,∀r∈rs,oE r)/\eU.length<=100/\pM dM /\
 ∀H',aC H H'->Q (.int (pN eU l m h dM)) H'
theorem Hn:aR ["post","hands","newest","least","most","wishes","wished"] ["post","hands","newest"] (aH Fi):=(by walk_at "c")
theorem RZ (F:jk K "wish" "wish" Fi f fd) (B:Bi mg) (nC:Ct P w K mg base k "rule_wish" ["rule","hands","newest"] VB):bM P w K mg base iH (k+1) f fd ["post","hands","newest"] MT:=by
 refine F.ok Hn (by rintro vs H Q E ⟨v,u,h,l,m,d0,d1,d3,d4,d5,eU,dM,rfl,_⟩; rfl) (fun cdv A outer s H vs Q E hr h=>?_)
 obtain⟨v,u,h,l,m,d0,d1,d3,d4,d5,eU,dM,rfl,a1,a2,hR,hn,hN,q⟩:=h
 have ND:=Hn.nd
 refine⟨_,(aq (dN (bz aU (pv 0) ao (fun _ _=>rfl)) (bJ (K:=K) (n:=2) rfl rfl (aD (aF (i:=3) ND rfl (by walk_at "o")) (aD (aF (i:=4) ND rfl (by walk_at "o")) bI)))) (aq (zP (i:=5) ND rfl (by walk_at "o") (N':=["rule","hands","newest"]) (js:=[1,2]) rfl (jr (K:=K) rfl (bz aU (pv 0) ao (fun _ _=>rfl))) tO.mk2 rfl (by decide) rfl (fun fp s' H'=>(pf nC hr (aa (pv 0) (aa (pv 1) (aa (pv 2) ak)))))) (aq (a_ (i:=6) ND rfl (by walk_at "o") (HX rfl B.max (aa (pv 5) ak) (pv 1))) (aJ (aV (pb (dZ rfl) B.min ji (aa (pb (iT rfl) B.max lF (aa (pv 6) (aa (pv 3) ak))) (aa (pv 4) ak)))))))),?_⟩
 obtain⟨a,xs,rfl,h1,h2⟩:=bB a1
 obtain⟨x0,_,rfl,b0,h2⟩:=aj.aX h2
 obtain⟨x1,_,rfl,b1,h2⟩:=aj.aX h2
 obtain⟨x2,_,rfl,b2,h2⟩:=aj.aX h2
 obtain⟨x3,_,rfl,b3,h2⟩:=aj.aX h2
 obtain⟨x4,_,rfl,b4,h2⟩:=aj.aX h2
 obtain⟨x5,_,rfl,b5,h2⟩:=aj.aX h2
 obtain⟨x6,_,rfl,b6,h2⟩:=aj.aX h2
 cases aj.lV h2
 obtain⟨c,ys,rfl,g1,g2⟩:=bB b2
 obtain⟨y0,_,rfl,k0,g2⟩:=aj.aX g2
 obtain⟨y1,_,rfl,k1,g2⟩:=aj.aX g2
 cases aj.lV g2
 unfold At at k0 k1
 subst k0 k1
 obtain⟨e,zs,rfl,m1,m2⟩:=bB b6
 walk_at "rd"
 refine Ix.tup h1 (bx (j:=2) rfl) ⟨c,_,rfl,cA.of g1,rfl,?_⟩
 walk_at "rd"
 rw[xV]
 walk_at "rd"
 refine Ix.tup h1 (bx (j:=6) rfl) ?_
 refine Ji (a:=e) (f:=fun i=>gr h dM (eU.getD i [])) (fun R hR=>hR) m1 m2 (iz (bj (by rw[bR]; omega))) (fun i x d H' s' ed hx R hR'=>?_) (fun acc H' s' hl=>?_)
 ·rw[g8] at ed
  obtain⟨rs,el,rfl⟩:=nY.mp ed
  show rQ _ _ _ _ [some x,some (.int h),some u] H' R
  walk_at "rd"
  refine Rw.of hx (a2.mono s') (hR rs (jW el)) hN fun H2 s2=>?_
  have:=hR' H2 s2
  have eg:eU.getD i []=rs:=by rw[iB,el]; rfl
  rw[eg] at this
  exact this
 ·rw[bR] at hl
  have el:(List.range eU.length).map (fun i=>gr h dM (eU.getD i []))=eU.map (gr h dM):=by
   apply Hs
   ·simp
   ·intro i h1 h2
    simp at h1 h2
    simp[iB,h2]
  rw[el] at hl
  have q1:=q H' s'
  unfold pN topOf at q1
  refine⟨acc,_,rfl,hl,fun en=>?_,fun b r er=>?_⟩
  ·rw[en] at q1
   exact q1
  ·rw[er] at q1
   exact q1
def Hk:Sp:=fun vs H Q _=>∃(v x:V) (a:Addr) (r:Int) (b:Addr) (ns:List Int) (u:List V),v=.ref a/\vs=[v]/\H a=some (.tup (x::.int r::.ref b::u))/\H b=some (.tup (ns.map V.int))/\Q (.int (r+ns.sum)) H
theorem rW:aR ["stand"] ["stand"] (aH oN):=(by walk_at "c")
theorem Dn (F:jk K "hands_of" "hands_of" oN f fd) (B:Bi mg):bM P w K mg base iH (k+1) f fd ["stand"] Hk:=by
 refine F.ok rW (by rintro vs H Q E ⟨v,x,a,r,b,ns,u,_,rfl,_⟩; rfl) (fun cdv A outer s H vs Q E hr h=>?_)
 obtain⟨v,x,a,r,b,ns,u,rfl,rfl,h1,h2,q⟩:=h
 have ND:=rW.nd
 refine⟨_,(aJ (aV (aZ bN (bz aU (pv 0) ao (fun _ _=>rfl)) (pb (yP rfl) B.sum Qv (aa (bz aU (pv 0) ao (fun _ _=>rfl)) ak))))),?_⟩
 walk_at "rd"
 refine⟨a,_,1,_,rfl,rfl,.inr h1,bx (j:=1) rfl,?_⟩
 refine⟨a,_,2,_,rfl,rfl,.inr h1,bx (j:=2) rfl,?_⟩
 refine⟨b,ns,rfl,.inr h2,?_⟩
 exact⟨_,_,rfl,rfl,q⟩
theorem Qa {X:Cx}:ZS X (fun o i H Q=>∃(p:Addr) (xs:List V) (j:Nat) (v:V),o=.ref p/\i=.int j/\H p=some (.lst xs)/\xs[j]?=some v/\Q v H):=by
 intro pins s σ H o i ov iv Q I ro ri h
 obtain⟨p,xs,j,v,rfl,rfl,hp,hv,q⟩:=h
 cases ro
 obtain⟨t,rfl⟩:=ri
 obtain⟨its,r,pl,hz⟩:=I.list (gW.of (K:=X.K) hp)
 obtain⟨w,ew,Rj⟩:=r.get hv
 have hl:=r.length
 have hn:=vK
 have hj:j<xs.length:=by obtain⟨z,_⟩:=fK.mp hv; exact z
 exact wpAny_getItem_list pl.isList (by omega) (by omega) (by simpa using ew) ⟨v,H,I,Rj,q⟩
theorem SQ {n j:Nat} (h:j<n):S5 n (j:Int)=some j:=by
 unfold S5
 rw[aM (by omega),aM (by omega),uU]
structure cD where
 w:Int
 r:Int
 cs:List Int
 s:Int
 t:Int
 us:List (List Int)
def iJ (x:cD):PyData:=.tuple [.int x.w,.int x.r,.tuple (x.cs.map .int),.int x.s,.int x.t,.tuple (x.us.map dh)]
structure fu (x:cD):Prop where
 c:x.cs.length=5
 u:x.us.length=3
 l:∀y∈x.us,y.length=3
structure cF where
 p:Int
 m:Int
 lo:Int
 hi:Int
 a:Nat
 e:Int
 u:Int
 d:Int
 eU:List (List fZ)
def iD (x:cF):PyData:=N6 (.int x.p) (.int x.m) (.int x.a) (.int x.e) (.tuple [.int x.u,.int x.d]) x.lo x.hi x.eU
structure kh (x:cF):Prop where
 a:x.a<=4
 p:0<=x.p/\x.p<=1000000000000000000
 n:x.eU.length<=100
 g:∀rs∈x.eU,∀r∈rs,oE r
theorem jX {H:Hp} {x:cF} {v:V} (h:At H (iD x) v):∃a b c d,v=.ref a/\H a=some (.tup [.int x.p,.int x.m,.ref b,.int x.a,.int x.e,.ref c,.ref d])/\H c=some (.tup [.int x.u,.int x.d]):=by
 obtain⟨a,xs,rfl,h1,h2⟩:=bB h
 obtain⟨x0,_,rfl,b0,h2⟩:=aj.aX h2
 obtain⟨x1,_,rfl,b1,h2⟩:=aj.aX h2
 obtain⟨x2,_,rfl,b2,h2⟩:=aj.aX h2
 obtain⟨x3,_,rfl,b3,h2⟩:=aj.aX h2
 obtain⟨x4,_,rfl,b4,h2⟩:=aj.aX h2
 obtain⟨x5,_,rfl,b5,h2⟩:=aj.aX h2
 obtain⟨x6,_,rfl,b6,h2⟩:=aj.aX h2
 cases aj.lV h2
 unfold At at b0 b1 b3 b4
 subst b0 b1 b3 b4
 obtain⟨b,ys,rfl,_,_⟩:=bB b2
 obtain⟨c,zs,rfl,g1,g2⟩:=bB b5
 obtain⟨d,ws,rfl,_,_⟩:=bB b6
 obtain⟨y0,_,rfl,k0,g2⟩:=aj.aX g2
 obtain⟨y1,_,rfl,k1,g2⟩:=aj.aX g2
 cases aj.lV g2
 unfold At at k0 k1
 subst k0 k1
 exact⟨a,b,c,d,rfl,h1,g1⟩
theorem gA {H:Hp} {x:cD} {v:V} (h:At H (iJ x) v):∃a b c,v=.ref a/\H a=some (.tup [.int x.w,.int x.r,.ref b,.int x.s,.int x.t,.ref c])/\H b=some (.tup (x.cs.map V.int))/\At H (.tuple (x.us.map dh)) (.ref c):=by
 obtain⟨a,xs,rfl,h1,h2⟩:=bB h
 obtain⟨x0,_,rfl,b0,h2⟩:=aj.aX h2
 obtain⟨x1,_,rfl,b1,h2⟩:=aj.aX h2
 obtain⟨x2,_,rfl,b2,h2⟩:=aj.aX h2
 obtain⟨x3,_,rfl,b3,h2⟩:=aj.aX h2
 obtain⟨x4,_,rfl,b4,h2⟩:=aj.aX h2
 obtain⟨x5,_,rfl,b5,h2⟩:=aj.aX h2
 cases aj.lV h2
 unfold At at b0 b1 b3 b4
 subst b0 b1 b3 b4
 obtain⟨b,ys,rfl,g1,g2⟩:=bB b2
 cases cg g2
 obtain⟨c,zs,rfl,_,_⟩:=bB b5
 exact⟨a,b,c,rfl,h1,g1,b5⟩
def oJ (e s:Int):Int:=if s+1<e then s+1 else 0
def lg (e s t:Int):Bool:=if s+1<e then false else decide (t=0)
def Hd:Sp:=fun vs H Q _=>∃(v:V) (x:cF) (s t:Int),vs=[v,.int s,.int t]/\At H (iD x) v/\∀p H',aC H H'->H' p=some (.tup [.int (oJ x.e s),.bl (lg x.e s t)])->Q (.ref p) H'
theorem jq:aR ["post","since","rest","every"] ["post","since","rest"] (aH gB):=(by walk_at "c")
theorem qj (F:jk K "since_and_look" "since_and_look" gB f fd):bM P w K mg base iH (k+1) f fd ["post","since","rest"] Hd:=by
 refine F.ok jq (by rintro vs H Q E ⟨v,x,s,t,rfl,_⟩; rfl) (fun cdv A outer s H vs Q E hr h=>?_)
 obtain⟨v,x,sn,t,rfl,a1,q⟩:=h
 have ND:=jq.nd
 refine⟨_,(aq (a_ (i:=3) ND rfl (by walk_at "o") (bz aU (pv 0) ao (fun _ _=>rfl))) (aq (dG (bw Dj (aZ bN (pv 1) ao) (pv 3) (bA _)) (aJ (aV (aY (aa (aZ bN (pv 1) ao) (aa mR ak))))) bT) (aJ (aV (aY (aa ao (aa (fY mU (pv 2) ao (bA _)) ak))))))),?_⟩
 obtain⟨a,b,c,d,rfl,h1,h2⟩:=jX a1
 walk_at "rd"
 refine Ix.tup h1 (bx (j:=4) rfl) ?_
 walk_at "rd"
 refine iw (fun c1=>?_) (fun c1=>?_)
 ·have c1':=uV c1
  refine⟨(by decide),fun p H1 f1 s1 e1=>q p H1 s1 ?_⟩
  unfold oJ lg
  rw[aM c1',aM c1']; exact e1
 ·have c1':=Fx c1
  refine⟨(by decide),fun p H1 f1 s1 e1=>q p H1 s1 ?_⟩
  unfold oJ lg
  rw[aK c1',aK c1']; exact e1
def Aq (x:cF) (h fr:Int) (dM:List (List Int)):Int:=if fr<pN x.eU x.lo x.hi h dM-h then fr else pN x.eU x.lo x.hi h dM-h
def BP:Sp:=fun vs H Q _=>∃(v u:V) (x:cF) (h fr:Int) (dM:List (List Int)),vs=[v,.int h,u,.int fr]/\At H (iD x) v/\At H (Ey dM) u/\kh x/\pM dM/\∀H',aC H H'->Q (.int (Aq x h fr dM)) H'
theorem pY:aR ["post","hands","newest","free"] ["post","hands","newest","free"] (aH mG):=(by walk_at "c")
theorem zY (F:jk K "change_of" "change_of" mG f fd) (B:Bi mg) (GF:Ct P w K mg base k "wish" ["post","hands","newest"] MT):bM P w K mg base iH (k+1) f fd ["post","hands","newest","free"] BP:=by
 refine F.ok pY (by rintro vs H Q E ⟨v,u,x,h,fr,dM,rfl,_⟩; rfl) (fun cdv A outer s H vs Q E hr h=>?_)
 obtain⟨v,u,x,h,fr,dM,rfl,a1,a2,hP,hN,q⟩:=h
 have ND:=pY.nd
 refine⟨_,(aJ (aV (pb (dZ rfl) B.min ji (aa (aZ iu (pf GF hr (aa (pv 0) (aa (pv 1) (aa (pv 2) ak)))) (pv 1)) (aa (pv 3) ak))))),?_⟩
 walk_at "rd"
 refine⟨v,u,h,x.lo,x.hi,_,_,_,_,_,x.eU,dM,rfl,a1,a2,hP.g,hP.n,hN,fun H1 s1=>?_⟩
 walk_at "rd"
 exact q H1 s1
def cV:List Int->Int->List Int×Int
 | [],n=>([],n)
 | c::cs,n=>((c-(if(cV cs n).2<c then(cV cs n).2 else c))::(cV cs n).1,(cV cs n).2-(if(cV cs n).2<c then(cV cs n).2 else c))
theorem vR:∀(cs:List Int) (n:Int),(cV cs n).1.length=cs.length
 | [],_=>rfl
 | c::cs,n=>by rw[cV,nU,nU,vR cs n]
def M5:Sp:=fun vs H Q _=>∃(r n:Int) (b:Addr) (cs:List Int),vs=[.int r,.ref b,.int n]/\H b=some (.tup (cs.map V.int))/\cs.length<=100/\∀p b' H',aC H H'->H' p=some (.tup [.int (r-(cV cs n).2),.ref b'])->H' b'=some (.tup ((cV cs n).1.map V.int))->Q (.ref p) H'
theorem pU:aR ["ready","called","many","left","place","gone"] ["ready","called","many"] (aH mC):=(by walk_at "c")
theorem zV (F:jk K "sent_home" "sent_home" mC f fd) (B:Bi mg):bM P w K mg base iH (k+1) f fd ["ready","called","many"] M5:=by
 refine F.ok pU (by rintro vs H Q E ⟨r,n,b,cs,rfl,_⟩; rfl) (fun cdv A outer s H vs Q E hr h=>?_)
 obtain⟨r,n,b,cs,rfl,h1,hlen,q⟩:=h
 have ND:=pU.nd
 refine⟨_,(aq (a_ (i:=3) ND rfl (by walk_at "o") (pt (Lf) B.list Jl (aa (pv 1) ak))) (aq (oW PassesOwn.never rfl (V4 B.reversed B.range (aa (pb (d7 (K:=K) rfl) B.len lG (aa (pv 3) ak)) ak)) (aF (i:=4) ND rfl (by walk_at "o")) (aq (a_ (i:=5) ND rfl (by walk_at "o") (pb (dZ rfl) B.min ji (aa (bz aU (pv 3) (pv 4) (fun _ _=>rfl)) (aa (pv 2) ak)))) (aq (RG (pv 3) (pv 4) Qa (pv 5) Gg set_list) (aJ (vh (i:=2) ND rfl (by walk_at "o") (pv 5) Gg))))) (aJ (aV (aY (aa (aZ iu (pv 0) (pv 2)) (aa (pt (cz) B.tuple cT (aa (pv 3) ak)) ak))))))),?_⟩
 walk_at "rd"
 refine⟨b,_,rfl,h1,fun p1 f1=>?_⟩
 have s1:=aO f1 (HO.lst (cs.map V.int))
 have e1:upd H p1 (HO.lst (cs.map V.int)) p1=some (.lst (cs.map V.int)):=az
 generalize upd H p1 (HO.lst (cs.map V.int))=H1 at s1 e1 ⊢
 rw[MJ]
 walk_at "rd"
 refine⟨p1,_,rfl,.inl (gW.of e1),?_⟩
 rw[bR]
 refine VK'.of (n:=cs.length) rfl (by omega) (fun i σ H'=>∃o4 o5:Option V,σ=[some (.int r),some (.ref b),some (.int (cV (cs.drop (cs.length-i)) n).2),some (.ref p1),o4,o5]/\H' p1=some (.lst ((cs.take (cs.length-i)++(cV (cs.drop (cs.length-i)) n).1).map V.int))/\aC H H')
  ⟨_,_,by rw[Nat.sub_zero,Ce]; rfl,by rw[Nat.sub_zero,Ce,wY]; simpa[cV] using e1,s1⟩ ?_ ?_
 ·rintro i σ H2 hi ⟨o4,o5,rfl,h2,s2⟩
  obtain⟨j,ej⟩:∃j:Nat,cs.length-i=j+1:=⟨cs.length-i-1,by omega⟩
  have ej2:cs.length-(i+1)=j:=by omega
  have ei:(cs.length:Int)-1-(i:Nat)=(j:Nat):=by omega
  rw[ej] at h2
  rw[ei,ej,ej2]
  have hj:j<cs.length:=by omega
  have dj:cs.drop j=cs[j]::cs.drop (j+1):=Cu hj
  have tj:cs.take (j+1)=cs.take j++[cs[j]]:=by rw[Ca,eV hj]; rfl
  rw[dj,cV]
  generalize cV (cs.drop (j+1)) n=gh at h2 ⊢
  rw[tj] at h2
  generalize cs[j]=cj at h2 ⊢
  have lt:(cs.take j).length=j:=by rw[nW]; omega
  have gj:((cs.take j++[cj]++gh.1).map V.int)[j]?=some (.int cj):=by
   rw[g8,Cg,zO (by omega),lt,zL]; rfl
  walk_at "rd"
  refine Ix.lst h2 (bx gj) ?_
  walk_at "rd"
  refine⟨p1,_,j,_,rfl,rfl,h2,gj,?_⟩
  walk_at "rd"
  refine⟨p1,_,_,j,rfl,rfl,h2,SQ (by rw[bR,gD,gD,lt]; show j<j+1+_; omega),?_⟩
  refine⟨_,rfl,_,_,rfl,rfl,_,_,rfl,?_,fun z o w=>?_⟩
  ·rw[az]
   congr 2
   have e:cs.take j++[cj]++gh.1=cs.take j++(cj::gh.1):=by simp
   rw[e,jm,jm,List.set_append_right _ _ (by rw[bR]; omega),bR,lt,zL]
   rfl
  ·rw[aL (bV w f1)]
   exact s2 _ _ w
 ·rintro σ H2 ⟨o4,o5,rfl,h2,s2⟩
  rw[zL,List.drop_zero,List.take_zero,Fq] at h2
  rw[zL,List.drop_zero]
  walk_at "rd"
  refine⟨p1,_,rfl,h2,fun p3 f3=>?_⟩
  have s3:=aO f3 (HO.tup ((cV cs n).1.map V.int))
  have e3:upd H2 p3 (HO.tup ((cV cs n).1.map V.int)) p3=some (.tup ((cV cs n).1.map V.int)):=az
  generalize upd H2 p3 (HO.tup ((cV cs n).1.map V.int))=H3 at s3 e3 ⊢
  refine⟨(by decide),fun p4 H4 f4 s4 e4=>?_⟩
  exact q p4 p3 H4 (s2.trans (s3.trans s4)) e4 (s4 _ _ e3)
def jO (x:cF) (st:cD) (ch:Int):cD:=
 if ch=0 then st else if 0<ch then { st with cs:=st.cs.take x.a++[st.cs.getD x.a 0+ch]++st.cs.drop (x.a+1),t:=x.u }
 else { st with r:=st.r-(cV st.cs (-ch)).2,cs:=(cV st.cs (-ch)).1,t:=x.d }
def Fb:Sp:=fun vs H Q _=>∃(v u:V) (x:cF) (st:cD) (ch:Int),vs=[v,u,.int ch]/\At H (iD x) v/\At H (iJ st) u/\kh x/\fu st/\∀u' H',aC H H'->At H' (iJ (jO x st ch)) u'->Q u' H'
theorem lY:aR ["post","stand","change","late","rests","wait","ready","called","since","rest","seen"] ["post","stand","change"] (aH jy):=(by walk_at "c")
theorem vq (F:jk K "with_change" "with_change" jy f fd) (B:Bi mg) (nu:Ct P w K mg base k "sent_home" ["ready","called","many"] M5):bM P w K mg base iH (k+1) f fd ["post","stand","change"] Fb:=by
 refine F.ok lY (by rintro vs H Q E ⟨v,u,x,st,ch,rfl,_⟩; rfl) (fun cdv A outer s H vs Q E hr h=>?_)
 obtain⟨v,u,x,st,ch,rfl,a1,a2,hP,hS,q⟩:=h
 have ND:=lY.nd
 refine⟨_,(aq (dG (bw mU (pv 2) ao (bA _)) (aJ (aV (pv 1))) bT) (aq (vg (i:=3) (j:=4) rfl ND rfl rfl (by decide) rfl rfl (aa (bz aU (pv 0) ao (fun _ _=>rfl)) (aa (bz aU (pv 0) ao (fun _ _=>rfl)) ak)) (by rfl)) (aq (dN (pv 1) (bJ (K:=K) (n:=6) rfl rfl (aD (aF (i:=5) ND rfl (by walk_at "o")) (aD (aF (i:=6) ND rfl (by walk_at "o")) (aD (aF (i:=7) ND rfl (by walk_at "o")) (aD (aF (i:=8) ND rfl (by walk_at "o")) (aD (aF (i:=9) ND rfl (by walk_at "o")) (aD (aF (i:=10) ND rfl (by walk_at "o")) bI)))))))) (aq (dG (bw lO (pv 2) ao (bA _)) (aq (a_ (i:=7) ND rfl (by walk_at "o") (aZ tV (aZ tV (dR gO (pv 7) fW (eX (pv 3))) (aY (aa (aZ bN (bz aU (pv 7) (pv 3) (fun _ _=>rfl)) (pv 2)) ak))) (dR gO (pv 7) (eX (aZ bN (pv 3) ao)) fW))) (aJ (a_ (i:=9) ND rfl (by walk_at "o") (bz aU (pv 4) ao (fun _ _=>rfl))))) (aq (dN (pf nu hr (aa (pv 6) (aa (pv 7) (aa (UJ Ml (pv 2)) ak)))) (bJ (K:=K) (n:=2) rfl rfl (aD (aF (i:=6) ND rfl (by walk_at "o")) (aD (aF (i:=7) ND rfl (by walk_at "o")) bI)))) (aJ (a_ (i:=9) ND rfl (by walk_at "o") (bz aU (pv 4) ao (fun _ _=>rfl)))))) (aJ (aV (aY (aa (pv 5) (aa (pv 6) (aa (pv 7) (aa (pv 8) (aa (pv 9) (aa (pv 10) ak))))))))))))),?_⟩
 walk_at "rd"
 refine iw (fun c1=>?_) (fun c1=>?_)
 ·have:=q u H (aC.refl H)
  unfold jO at this
  rw[aM (uV c1)] at this
  exact this a2
 have c1':=Fx c1
 obtain⟨pa,pb,pc,pd,rfl,p1,p2⟩:=jX a1
 obtain⟨sa,sb,sc,rfl,g1,g2,g3⟩:=gA a2
 have ha4:=hP.a
 have hc5:=hS.c
 refine Ix.tup p1 (bx (j:=3) rfl) (Ix.tup p1 (bx (j:=5) rfl) ⟨_,_,rfl,?_⟩)
 refine⟨sa,_,rfl,cA.of g1,rfl,?_⟩
 walk_at "rd"
 refine iw (fun c2=>?_) (fun c2=>?_)
 ·have c2':=uV c2
  have ga:(st.cs.map V.int)[x.a]?=some (.int (st.cs.getD x.a 0)):=by
   rw[g8,eV (by omega),iB,eV (by omega)]; rfl
  refine⟨sb,_,rfl,g2,fun p3 H3 s3 e3=>?_⟩
  rw[rM (by omega),uU] at e3
  refine Ix.tup (s3 _ _ g2) (bx ga) ?_
  walk_at "rd"
  refine⟨(by decide),fun p4 H4 f4 s4 e4=>?_⟩
  refine⟨p3,p4,_,_,rfl,rfl,s4 _ _ e3,e4,iz (bj (by simp; omega)),fun p5 H5 s5 e5=>?_⟩
  walk_at "rd"
  have s35:=s3.trans (s4.trans s5)
  refine⟨sb,_,rfl,s35 _ _ g2,fun p6 H6 s6 e6=>?_⟩
  rw[qH (by omega)] at e6
  refine⟨p5,p6,_,_,rfl,rfl,s6 _ _ e5,e6,iz (bj (by simp; omega)),fun p7 H7 s7 e7=>?_⟩
  have s37:=s35.trans (s6.trans s7)
  walk_at "rd"
  refine Ix.tup (s37 _ _ p2) (bx (j:=0) rfl) ⟨(by decide),fun p8 H8 f8 s8 e8=>?_⟩
  have Yz:=s37.trans s8
  refine q (.ref p8) H8 Yz ?_
  unfold jO
  rw[aK c1',aM c2']
  refine At.tup e8 (aj.cons (At.int _) (aj.cons (At.int _) (aj.cons (At.tup (s8 _ _ e7) ?_) (aj.cons (At.int _) (aj.cons (At.int _) (aj.cons (g3.mono Yz) aj.nil))))))
  have e:(((x.a:Int)+1).toNat)=x.a+1:=by omega
  rw[e]
  have:=bD (H:=H8) (st.cs.take x.a++[st.cs.getD x.a 0+ch]++st.cs.drop (x.a+1))
  simpa using this
 ·have c2':=Fx c2
  refine⟨st.r,-ch,sb,st.cs,rfl,g2,by omega,fun p3 b3 H3 s3 e3 e4=>?_⟩
  refine⟨p3,_,rfl,cA.of e3,rfl,?_⟩
  walk_at "rd"
  refine Ix.tup (s3 _ _ p2) (bx (j:=1) rfl) ⟨(by decide),fun p8 H8 f8 s8 e8=>?_⟩
  have Yz:=s3.trans s8
  refine q (.ref p8) H8 Yz ?_
  unfold jO
  rw[aK c1',aK (by omega)]
  exact At.tup e8 (aj.cons (At.int _) (aj.cons (At.int _) (aj.cons (At.tup (s8 _ _ e4) (bD _)) (aj.cons (At.int _) (aj.cons (At.int _) (aj.cons (g3.mono Yz) aj.nil))))))
def dF (x:cF) (st:cD) (come:Int):Int:=if(if 0>x.m-st.w then 0 else x.m-st.w)<come then(if 0>x.m-st.w then 0 else x.m-st.w) else come
def mJ (st:cD):Int:=st.r+st.cs.getD 0 0
def j7 (x:cF) (st:cD) (come:Int):Int:=if mJ st*x.p<st.w+dF x st come then mJ st*x.p else st.w+dF x st come
def dY (x:cF) (st:cD) (come:Int):List (List Int):=[come,j7 x st come,st.w+dF x st come-j7 x st come]::st.us
def mX (x:cF) (st:cD) (come:Int):cD:=⟨st.w+dF x st come-j7 x st come,mJ st,st.cs.drop 1++[0],oJ x.e st.s,if 0>st.t-1 then 0 else st.t-1,(dY x st come).take 3⟩
def Ep (x:cF) (st:cD) (come fr:Int):Int:=if lg x.e st.s st.t=true then Aq x (mJ st+(st.cs.drop 1++[0]).sum) fr (dY x st come) else 0
def Fg:Sp:=fun vs H Q _=>∃(v u:V) (x:cF) (st:cD) (come fr:Int),vs=[v,u,.int come,.int fr]/\At H (iD x) v/\At H (iJ st) u/\kh x/\fu st /\
 ∀p u' H',aC H H'->At H' (iJ (jO x (mX x st come) (Ep x st come fr))) u'->H' p=some (.tup [u',.int (j7 x st come),.int (come-dF x st come),.int (Ep x st come fr)])->Q (.ref p) H'
theorem Hq:aR ["post","stand","come","free","pace","room","wait","ready","called","since","rest","seen","taken","done","newest","looks","moved","change"] ["post","stand","come","free"] (aH Fl):=(by walk_at "c")
theorem Ds {x:cF} {st:cD} {come:Int} (h:fu st):fu (mX x st come):=by
 refine⟨?_,?_,fun y hy=>?_⟩
 ·show(st.cs.drop 1++[0]).length=5
  have:=h.c
  simp; omega
 ·show((dY x st come).take 3).length=3
  have:=h.u
  unfold dY
  simp; omega
 ·have hy:=List.mem_of_mem_take hy
  unfold dY at hy
  rcases b8.mp hy with z | z
  ·rw[z]; rfl
  ·exact h.l y z
theorem R1 {T:Addr} {tk:Tok} (F:tM K "beat" "beat" Fl f fd T 12 tk) (B:Bi mg) (O:Co K mg) (gK:Ct P w K mg base k "since_and_look" ["post","since","rest"] Hd) (nD:Ct P w K mg base k "change_of" ["post","hands","newest","free"] BP) (pH:Ct P w K mg base k "hands_of" ["stand"] Hk)
  (jF:Ct P w K mg base k "with_change" ["post","stand","change"] Fb):bM P w K mg base iH (k+1) f fd ["post","stand","come","free"] Fg:=by
 refine F.ok Hq (by rintro vs H Q E ⟨v,u,x,st,come,fr,rfl,_⟩; rfl) (fun cdv A outer s H vs Q E hr h=>?_)
 obtain⟨v,u,x,st,come,fr,rfl,a1,a2,hP,hS,q⟩:=h
 have ND:=Hq.nd
 refine⟨_,(aq (dN (dR gO (pv 0) fW (eX ao)) (bJ (K:=K) (n:=2) rfl rfl (aD (aF (i:=4) ND rfl (by walk_at "o")) (aD (aF (i:=5) ND rfl (by walk_at "o")) bI)))) (aq (dN (pv 1) (bJ (K:=K) (n:=6) rfl rfl (aD (aF (i:=6) ND rfl (by walk_at "o")) (aD (aF (i:=7) ND rfl (by walk_at "o")) (aD (aF (i:=8) ND rfl (by walk_at "o")) (aD (aF (i:=9) ND rfl (by walk_at "o")) (aD (aF (i:=10) ND rfl (by walk_at "o")) (aD (aF (i:=11) ND rfl (by walk_at "o")) bI)))))))) (aq (vh (i:=7) ND rfl (by walk_at "o") (bz aU (pv 8) ao (fun _ _=>rfl)) Gh) (aq (a_ (i:=8) ND rfl (by walk_at "o") (aZ tV (dR gO (pv 8) (eX ao) fW) (aY (aa ao ak)))) (aq (a_ (i:=12) ND rfl (by walk_at "o") (pb (dZ rfl) B.min ji (aa (pv 2) (aa (pb (iT rfl) B.max lF (aa (aZ iu (pv 5) (pv 6)) (aa ao ak))) ak)))) (aq (vh (i:=6) ND rfl (by walk_at "o") (pv 12) Gh) (aq (a_ (i:=13) ND rfl (by walk_at "o") (pb (dZ rfl) B.min ji (aa (pv 6) (aa (aZ kY (pv 7) (pv 4)) ak)))) (aq (vh (i:=6) ND rfl (by walk_at "o") (pv 13) Gg) (aq (a_ (i:=14) ND rfl (by walk_at "o") (aZ tV (aY (aa (aY (aa (pv 2) (aa (pv 13) (aa (pv 6) ak)))) ak)) (pv 11))) (aq (dN (pf gK hr (aa (pv 0) (aa (pv 9) (aa (pv 10) ak)))) (bJ (K:=K) (n:=2) rfl rfl (aD (aF (i:=9) ND rfl (by walk_at "o")) (aD (aF (i:=15) ND rfl (by walk_at "o")) bI)))) (aq (a_ (i:=16) ND rfl (by walk_at "o") (aY (aa (pv 6) (aa (pv 7) (aa (pv 8) (aa (pv 9) (aa (pb (iT rfl) B.max lF (aa (aZ iu (pv 10) ao) (aa ao ak))) (aa (dR gO (pv 14) fW (eX (FN O.Be))) ak)))))))) (aq (a_ (i:=17) ND rfl (by walk_at "o") (mQ (vd (pv 15)) (pf nD hr (aa (pv 0) (aa (pf pH hr (aa (pv 16) ak)) (aa (pv 14) (aa (pv 3) ak))))) ao)) (aJ (aV (aY (aa (pf jF hr (aa (pv 0) (aa (pv 16) (aa (pv 17) ak)))) (aa (pv 13) (aa (aZ iu (pv 2) (pv 12)) (aa (pv 17) ak))))))))))))))))))),?_⟩
 obtain⟨pa,pb,pc,pd,rfl,p1,p2⟩:=jX a1
 obtain⟨sa,sb,sc,rfl,g1,g2,g3⟩:=gA a2
 have hc5:=hS.c
 have hpp:=hP.p
 have gc0:(st.cs.map V.int)[0]?=some (.int (st.cs.getD 0 0)):=by
  rw[g8,eV (by omega),iB,eV (by omega)]; rfl
 walk_at "rd"
 refine⟨pa,_,rfl,p1,fun q1 H1 s1 e1=>?_⟩
 rw[rM (by decide)] at e1
 replace e1:H1 q1=some (.tup [.int x.p,.int x.m]):=e1
 refine⟨q1,_,rfl,cA.of e1,rfl,?_⟩
 walk_at "rd"
 refine⟨sa,_,rfl,cA.of (s1 _ _ g1),rfl,?_⟩
 walk_at "rd"
 refine⟨_,rfl,Ix.tup (s1 _ _ g2) (bx gc0) ⟨_,_,rfl,rfl,?_⟩⟩
 refine⟨sb,_,rfl,s1 _ _ g2,fun q2 H2 s2 e2=>?_⟩
 rw[qH (by decide)] at e2
 have s12:=s1.trans s2
 refine⟨(by decide),fun q3 H3 f3 s3 e3=>?_⟩
 refine⟨q2,q3,_,_,rfl,rfl,s3 _ _ e2,e3,iz (bj (by simp; omega)),fun q4 H4 s4 e4=>?_⟩
 have Uv:=s12.trans (s3.trans s4)
 walk_at "rd"
 refine⟨_,rfl,_,_,rfl,rfl,.inr (by omega),_,rfl,_,_,rfl,rfl,(by decide),fun q5 H5 f5 s5 e5=>⟨(by decide),fun q6 H6 f6 s6 e6=>?_⟩⟩
 replace e5:H5 q5=some (.tup [.int come,.int (j7 x st come),.int (st.w+dF x st come-j7 x st come)]):=e5
 obtain⟨sc',us',ec,gu,au⟩:=bB g3
 cases ec
 have tU:=Uv.trans (s5.trans s6)
 have lus:us'.length=3:=by have:=au.length; rw[bR,hS.u] at this; exact this
 refine⟨q6,sc,_,_,rfl,rfl,e6,tU _ _ gu,iz (bj (by simp; omega)),fun q7 H7 s7 e7=>?_⟩
 have Ri:=tU.trans s7
 have a7:At H7 (Ey (dY x st come)) (.ref q7):=At.tup e7 (aj.cons (At.tup ((s6.trans s7) _ _ e5) (bD [come,j7 x st come,st.w+dF x st come-j7 x st come])) (au.mono Ri))
 have hN:pM (dY x st come):=⟨by show st.us.length+1=4; rw[hS.u],fun y hy=>by
  rcases b8.mp hy with z | z
  ·rw[z]; rfl
  ·exact hS.l y z⟩
 refine⟨.ref pa,x,st.s,st.t,rfl,a1.mono Ri,fun q8 H8 s8 e8=>?_⟩
 refine⟨q8,_,rfl,cA.of e8,rfl,?_⟩
 walk_at "rd"
 have s18:=Ri.trans s8
 obtain⟨q7',nws,en,gn,an⟩:=bB (a7.mono s8)
 cases en
 refine⟨q7,_,rfl,gn,fun q9 H9 s9 e9=>?_⟩
 rw[rM (by decide)] at e9
 have s19:=s18.trans s9
 refine⟨(by decide),fun VP Bj WN rY e10=>?_⟩
 have YF:=s19.trans rY
 have e4':H4 q4=some (.tup ((st.cs.drop 1++[0]).map V.int)):=by rw[e4]; simp
 have Yy:aC H4 Bj:=s5.trans (s6.trans (s7.trans (s8.trans (s9.trans rY))))
 have am:At Bj (iJ (mX x st come)) (.ref VP):=by
  refine At.tup e10 (aj.cons (At.int _) (aj.cons (At.int _) (aj.cons (At.tup (Yy _ _ e4') (bD _)) (aj.cons (At.int _) (aj.cons (At.int _) (aj.cons (At.tup (rY _ _ e9) ?_) aj.nil))))))
  show aj Bj (((dY x st come).take 3).map dh) _
  rw[List.map_take]
  exact(an.take 3).mono (s9.trans rY)
 have fin:∀(c:Int) (Lp:Hp),Ep x st come fr=c->aC Bj Lp->Fb [.ref pa,.ref VP,.int c] Lp (fun y H1=>4<=sizeLine/\∀p H',H1 p=none->aC H1 H'->H' p=some (.tup [y,.int (j7 x st come),.int (come-dF x st come),.int c])->Q (.ref p) H') E0:=fun c Lp ec Eo=>by
  subst ec
  have YD:=YF.trans Eo
  exact⟨.ref pa,.ref VP,x,mX x st come,_,rfl,a1.mono YD,am.mono Eo,hP,Ds hS,fun u' H12 aaR a12=>⟨(by decide),fun q13 Vk Zy uN Tg=>q q13 u' Vk (YD.trans (aaR.trans uN)) (a12.mono uN) Tg⟩⟩
 refine iw (fun c1=>?_) (fun c1=>?_)
 ·refine⟨.ref VP,_,VP,mJ st,q4,st.cs.drop 1++[0],_,rfl,rfl,e10,Yy _ _ e4',?_⟩
  refine⟨.ref pa,.ref q7,x,_,fr,dY x st come,rfl,a1.mono YF,a7.mono (s8.trans (s9.trans rY)),hP,hN,fun Lp Eo=>?_⟩
  exact fin _ Lp (by unfold Ep; rw[aM c1]) Eo
 ·exact fin 0 Bj (by unfold Ep; rw[aK (by rw[c1]; decide)]) (aC.refl _)
local macro_rules | `(tactic| walk_at "cap")=>`(tactic| simp only[bO,kW,yj,HN,Cp,Hu])
def d_:List fZ->Str->Int
 | [],_=>0
 | r::rs,w=>if r.w=w/\d_ rs w<(r.s:Int)-1 then(r.s:Int)-1 else d_ rs w
structure zc (rs:List fZ) (w:Str) (v:Int):Prop where
 z:0<=v
 le:∀r∈rs,r.w=w->(r.s:Int)-1<=v
 at':v=0\/∃r∈rs,r.w=w/\(r.s:Int)-1=v
theorem zc.one {rs:List fZ} {w:Str} {v u:Int} (h:zc rs w v) (k:zc rs w u):v=u:=by
 have h1:v<=u:=by
  rcases h.at' with z | ⟨r,hr,e,z⟩
  ·have:=k.z; omega
  ·have:=k.le r hr e; omega
 have h2:u<=v:=by
  rcases k.at' with z | ⟨r,hr,e,z⟩
  ·have:=h.z; omega
  ·have:=h.le r hr e; omega
 omega
theorem qO:∀(rs:List fZ) (w:Str),zc rs w (d_ rs w)
 | [],w=>⟨uR 0,by simp,.inl rfl⟩
 | r::rs,w=>by
  have ih:=qO rs w
  have e:d_ (r::rs) w=if r.w=w/\d_ rs w<(r.s:Int)-1 then(r.s:Int)-1 else d_ rs w:=rfl
  rw[e]
  have z:=ih.z
  by_cases c:r.w=w/\d_ rs w<(r.s:Int)-1
  ·rw[aM c]
   refine⟨by omega,fun x hx hw=>?_,.inr ⟨r,jo,c.1,rfl⟩⟩
   rcases b8.mp hx with y | y
   ·rw[y]; exact uR _
   ·have:=ih.le x y hw; omega
  ·rw[aK c]
   refine⟨z,fun x hx hw=>?_,?_⟩
   ·rcases b8.mp hx with y | y
    ·subst y
     have:¬d_ rs w<(x.s:Int)-1:=fun q=>c ⟨hw,q⟩
     omega
    ·exact ih.le x y hw
   ·rcases ih.at' with y | ⟨x,hx,e1,e2⟩
    ·exact .inl y
    ·exact .inr ⟨x,il _ hx,e1,e2⟩
def fC (x:cF):List Int:=[d_ x.eU.flatten "come",d_ x.eU.flatten "done",d_ x.eU.flatten "wait"]
theorem tW:∀(r:List Int) (b:Int),(∀y∈b::r,y<=dJ b r)/\dJ b r∈b::r
 | [],b=>⟨fun y hy=>by rw[fj.mp hy]; exact uR _,fj.mpr rfl⟩
 | c::r,b=>by
  have ih:=tW r (if c>b then c else b)
  have e:dJ b (c::r)=dJ (if c>b then c else b) r:=rfl
  rw[e]
  obtain⟨h1,h2⟩:=ih
  have hb:=h1 _ jo
  have hb2:b<=dJ (if c>b then c else b) r/\c<=dJ (if c>b then c else b) r:=by
   generalize dJ (if c>b then c else b) r=M at hb
   by_cases z:c>b
   ·rw[aM z] at hb; omega
   ·rw[aK z] at hb; omega
  refine⟨fun y hy=>?_,?_⟩
  ·rcases b8.mp hy with z | z
   ·subst z; exact hb2.1
   ·rcases b8.mp z with z | z
    ·subst z; exact hb2.2
    ·exact h1 y (il _ z)
  ·rcases b8.mp h2 with z | z
   ·rw[z]
    split
    ·exact il _ jo
    ·exact jo
   ·exact il _ (il _ z)
def zx:Sp:=fun vs H Q _=>∃(p:Addr) (t:Str) (rs:List fZ) (xs:List V),vs=[.ref p,.str t]/\H p=some (.lst xs)/\aj H (rs.map p_) xs/\rs.length<=1000/\(∀r∈rs,oE r)/\∀H',aC H H'->Q (.int (d_ rs t)) H'
theorem nZ:aR ["rows","what"] ["rows","what"] (aH kE):=(by walk_at "c")
theorem xg (F:jk K "most_ahead" "most_ahead" kE f fd) (B:Bi mg):bM P w K mg base iH (k+1) f fd ["rows","what"] zx:=by
 refine F.ok nZ (by rintro vs H Q E ⟨p,t,rs,xs,rfl,_⟩; rfl) (fun cdv A outer s H vs Q E hr h=>?_)
 obtain⟨p,t,rs,xs,rfl,hp,hA,hn,hR,q⟩:=h
 have ND:=nZ.nd
 refine⟨_,(aJ (aV (HX rfl B.max (aa (eQ (nt:=1) (N':=["row","what"]) (js:=[1]) rfl (h_ (K:=K) rfl (pv 0)) kj.of (fun fp s' H'=>(aF (i:=0) (by show List.Nodup (["row","what"]:List Str); decide) rfl (.inl (iK rfl)) (.inr (iK rfl)))) (fun fp s' H'=>S7 (bw mU (bz aU (pv 0) ao (fun _ _=>rfl)) (pv 1) (bA _))) (fun fp s' H'=>(aZ iu (bz aU (pv 0) ao (fun _ _=>rfl)) ao))) ak) ao))),?_⟩
 walk_at "rd"
 have hlen:xs.length=rs.length:=by rw[hA.length,bR]
 have row:∀(i:Nat) x,xs[i]?=some x->∃r,rs[i]?=some r/\At H (p_ r) x:=fun i x hx=>by
  obtain⟨d,hd,a⟩:=hA.get hx
  rw[g8] at hd
  cases e:rs[i]? with
  | none=>rw[e] at hd; simp at hd
  | some r=>rw[e] at hd; simp at hd; exact⟨r,rfl,by rw[hd]; exact a⟩
 refine Ti (fun i=>decide ((rs.getD i ⟨"",0,"",0,0⟩).w=t)) (fun i=>.int (((rs.getD i ⟨"",0,"",0,0⟩).s:Nat)-1)) (fun R hR=>?_) hp (by omega) (fun i x H' hx s' R hR=>?_) (fun i x H' hx hk s' R hR=>?_) (fun acc H' s' hacc hl=>?_)
 ·walk_at "rd"; exact hR
 ·obtain⟨r,er,ax⟩:=row i x hx
  obtain⟨b,rfl,hb⟩:=row_shape ax
  have eg:rs.getD i ⟨"",0,"",0,0⟩=r:=by rw[iB,er]; rfl
  rw[eg] at hR
  walk_at "rd"
  refine Ix.tup (s' _ _ hb) (bx (j:=0) rfl) ?_
  walk_at "cap"
  walk_at "rd"
  exact hR
 ·obtain⟨r,er,ax⟩:=row i x hx
  obtain⟨b,rfl,hb⟩:=row_shape ax
  have eg:rs.getD i ⟨"",0,"",0,0⟩=r:=by rw[iB,er]; rfl
  rw[eg] at hR
  walk_at "rd"
  refine Ix.tup (s' _ _ hb) (bx (j:=1) rfl) ?_
  walk_at "rd"
  exact hR
 ·have hl':H' acc=some (.lst ((((List.range xs.length).filter fun i=>decide ((rs.getD i ⟨"",0,"",0,0⟩).w=t)).map fun i=>(((rs.getD i ⟨"",0,"",0,0⟩).s:Nat):Int)-1).map V.int)):=by rw[hl,List.map_map]; rfl
  have mem:∀y,y∈(((List.range xs.length).filter fun i=>decide ((rs.getD i ⟨"",0,"",0,0⟩).w=t)).map fun i=>(((rs.getD i ⟨"",0,"",0,0⟩).s:Nat):Int)-1)↔∃r∈rs,r.w=t/\(r.s:Int)-1=y:=fun y=>by
   simp only[g_,List.mem_filter,zN,decide_eq_true_eq]
   constructor
   ·rintro⟨i,⟨hi,hw⟩,rfl⟩
    have e:rs.getD i ⟨"",0,"",0,0⟩=rs[i]'(by omega):=by rw[iB,eV (by omega)]; rfl
    rw[e] at hw ⊢
    exact⟨_,CN _,hw,rfl⟩
   ·rintro⟨r,hr',hw,rfl⟩
    obtain⟨i,hi,e⟩:=List.mem_iff_getElem.mp hr'
    have e':rs.getD i ⟨"",0,"",0,0⟩=r:=by rw[iB,eV hi,<- e]; rfl
    exact⟨i,⟨by omega,by rw[e']; exact hw⟩,by rw[e']⟩
  generalize (((List.range xs.length).filter fun i=>decide ((rs.getD i ⟨"",0,"",0,0⟩).w=t)).map fun i=>(((rs.getD i ⟨"",0,"",0,0⟩).s:Nat):Int)-1)=ns at hl' mem
  refine⟨acc,ns,rfl,hl',fun e=>?_,fun b r e=>?_⟩
  ·have:(0:Int)=d_ rs t:=by
    refine zc.one (rs:=rs) (w:=t) ⟨uR 0,fun r hr' hw=>?_,.inl rfl⟩ (qO rs t)
    have:=(mem ((r.s:Int)-1)).mpr ⟨r,hr',hw,rfl⟩
    rw[e] at this
    simp at this
   rw[this]
   exact q H' s'
  ·have:dJ b r=d_ rs t:=by
    obtain⟨m1,m2⟩:=tW r b
    rw[<- e] at m1 m2
    obtain⟨r',h1,h2,h3⟩:=(mem _).mp m2
    refine zc.one (rs:=rs) (w:=t) ⟨?_,fun x hx hw=>m1 _ ((mem _).mpr ⟨x,hx,hw,rfl⟩),.inr ⟨r',h1,h2,h3⟩⟩ (qO rs t)
    have:=(hR r' h1).s
    omega
   rw[this]
   exact q H' s'
theorem Fy {H:Hp} {x:cF} {v:V} (h:At H (iD x) v):∃a b c d ws,v=.ref a/\H a=some (.tup [.int x.p,.int x.m,.ref b,.int x.a,.int x.e,.ref c,.ref d])/\H d=some (.tup ws)/\aj H (x.eU.map oA) ws:=by
 obtain⟨a,b,c,d,rfl,h1,_⟩:=jX h
 obtain⟨a',xs,e,h2,h3⟩:=bB h
 cases e
 rw[h1] at h2
 cases h2
 obtain⟨_,_,e,b0,h3⟩:=aj.aX h3
 cases e
 obtain⟨_,_,e,b0,h3⟩:=aj.aX h3
 cases e
 obtain⟨_,_,e,b0,h3⟩:=aj.aX h3
 cases e
 obtain⟨_,_,e,b0,h3⟩:=aj.aX h3
 cases e
 obtain⟨_,_,e,b0,h3⟩:=aj.aX h3
 cases e
 obtain⟨_,_,e,b0,h3⟩:=aj.aX h3
 cases e
 obtain⟨_,_,e,b6,h3⟩:=aj.aX h3
 cases e
 obtain⟨d',ws,e,g1,g2⟩:=bB b6
 cases e
 exact⟨a,b,c,d,ws,rfl,h1,g1,g2⟩
structure Bm (x:cF):Prop where
 n:x.eU.flatten.length<=900
 r:∀r∈x.eU.flatten,oE r
def BK:Sp:=fun vs H Q _=>∃(v:V) (x:cF),vs=[v]/\At H (iD x) v/\Bm x/\∀p H',aC H H'->H' p=some (.tup ((fC x).map V.int))->Q (.ref p) H'
theorem yd:aR ["post","rows"] ["post"] (aH uH):=(by walk_at "c")
theorem Kl (F:jk K "needed" "needed" uH f fd) (B:Bi mg) (O:Co K mg) (lC:Ct P w K mg base k "most_ahead" ["rows","what"] zx):bM P w K mg base iH (k+1) f fd ["post"] BK:=by
 refine F.ok yd (by rintro vs H Q E ⟨v,x,rfl,_⟩; rfl) (fun cdv A outer s H vs Q E hr h=>?_)
 obtain⟨v,x,rfl,hv,hN,q⟩:=h
 have ND:=yd.nd
 refine⟨_,(aq (a_ (i:=1) ND rfl (by walk_at "o") (Od (N':=["rule","row"]) (js:=[]) rfl (jr (K:=K) rfl (bz aU (pv 0) ao (fun _ _=>rfl))) kj.of rfl rfl (by decide) rfl rfl (fun fp s' H'=>(jr (K:=K) rfl (pv 0))) (fun fp s' H'=>(pv 1)))) (aJ (aV (pt (cz) B.tuple cT (aa (gP (N':=["what","rows"]) (js:=[1]) rfl (jr (K:=K) rfl (HS (K:=K) rfl O.Vd)) tO.mk1 rfl (by decide) rfl (fun fp s' H'=>(pf lC hr (aa (pv 1) (aa (pv 0) ak))))) ak))))),?_⟩
 obtain⟨a,b,c,d,ws,rfl,h1,h2,h3⟩:=Fy hv
 walk_at "rd"
 have eD:x.eU.map oA=(x.eU.map fun rs=>rs.map p_).map PyData.tuple:=by rw[List.map_map]; rfl
 have eF:(x.eU.map fun rs=>rs.map p_).flatten=x.eU.flatten.map p_:=by rw[List.map_flatten]
 rw[eD] at h3
 refine Qp _ (fun R hR=>?_) h2 h3 (by rw[eF,bR]; have:=hN.n; omega) (fun y H' R hR=>?_) (fun y z H' R hR=>?_) (fun acc ys H' s' hacc hl hA=>?_)
 ·walk_at "rd"
  exact Ix.tup h1 (bx (j:=6) rfl) hR
 ·walk_at "rd"; exact hR
 ·walk_at "rd"; exact hR
 rw[eF] at hA
 refine Qo (es:=(fC x).map PyData.int) rfl (by show 3<=sizeLine; decide) rfl (fun i u e H2 hu he s2 R hR=>?_) (fun QB ys2 H2 s2 IW hl2 Zt=>?_)
 ·walk_at "cap"
  walk_at "rd"
  have hi:i<3:=by
   by_cases z:i<3
   ·exact z
   ·rw[HD (by show 3<=i; omega)] at hu; cases hu
  have go:∀(E2:XK) t,u=.str t->e=.int (d_ x.eU.flatten t)->zx ([V.ref acc,u]++[]) H2 R E2:=fun E2 t e1 e2=>by
   rw[e1]
   exact⟨acc,t,x.eU.flatten,ys,rfl,s2 _ _ hl,(hA.mono s').mono s2,(by have:=hN.n; omega),hN.r,fun H3 s3=>hR _ _ s3 (by rw[e2]; exact At.int _)⟩
  match i,hi,hu,he with
  | 0,_,hu,he=>cases hu; cases he; exact go _ "come" rfl rfl
  | 1,_,hu,he=>cases hu; cases he; exact go _ "done" rfl rfl
  | 2,_,hu,he=>cases hu; cases he; exact go _ "wait" rfl rfl
 ·cases cg Zt
  refine⟨QB,_,rfl,hl2,fun l hl3=>?_⟩
  exact q l _ (s'.trans (s2.trans (aO hl3 _))) az
theorem Mt (ws:List Int):PyData.hasDict (dh ws)=false/\PyData.canLay0 (dh ws)=true/\PyData.depth (dh ws)=1:=by
 obtain⟨d1,d2,d3⟩:=iQ ws
 exact⟨by simpa[dh,PyData.hasDict] using d1,by simpa[dh,PyData.canLay0] using d2,by show PyData.depthAll _+1=1; rw[d3]⟩
theorem Bt:∀us:List (List Int),PyData.hasDictAll (us.map dh)=false/\PyData.canLayAll0 (us.map dh)=true/\PyData.depthAll (us.map dh)<=1
 | []=>⟨rfl,rfl,e_ _⟩
 | u::us=>by
  obtain⟨h1,h2,h3⟩:=Bt us
  obtain⟨g1,g2,g3⟩:=Mt u
  refine⟨?_,?_,?_⟩
  ·show(PyData.hasDict (dh u) || PyData.hasDictAll (us.map dh))=false
   rw[h1,g1]; rfl
  ·show(PyData.canLay0 (dh u)&&PyData.canLayAll0 (us.map dh))=true
   rw[h2,g2]; rfl
  ·show max (PyData.depth (dh u)) (PyData.depthAll (us.map dh))<=1
   rw[g3]; omega
theorem Ra (n:cD):PyData.hasDict (iJ n)=false/\PyData.canLay0 (iJ n)=true/\PyData.depth (iJ n)<=60:=by
 obtain⟨d1,d2,d3⟩:=iQ n.cs
 obtain⟨e1,e2,e3⟩:=Bt n.us
 refine⟨by simpa[iJ,PyData.hasDict,PyData.hasDictAll] using⟨d1,e1⟩,by simpa[iJ,PyData.canLay0,PyData.canLayAll0] using⟨d2,e2⟩,?_⟩
 simp only[iJ,PyData.depth,PyData.depthAll,d3]
 omega
theorem vN:∀ns ms:List Int,PyData.eqvAll (ns.map PyData.int) (ms.map PyData.int)=decide (ns=ms)
 | [],[]=>by simp[PyData.eqvAll]
 | [],_::_=>by simp[PyData.eqvAll]
 | _::_,[]=>by simp[PyData.eqvAll]
 | a::r,b::t=>by
  have ih:=vN r t
  simp only[kW,PyData.eqvAll,PyData.eqv,ih]
  by_cases h1:a=b
  ·by_cases h2:r=t
   ·simp[h1,h2]
   ·simp[h1,h2]
  ·simp[h1]
theorem DR:∀us vs:List (List Int),PyData.eqvAll (us.map dh) (vs.map dh)=true↔us=vs
 | [],[]=>by simp[PyData.eqvAll]
 | [],_::_=>by simp[PyData.eqvAll]
 | _::_,[]=>by simp[PyData.eqvAll]
 | a::r,b::t=>by
  have ih:=DR r t
  have e:PyData.eqvAll ((a::r).map dh) ((b::t).map dh)=(PyData.eqvAll (a.map PyData.int) (b.map PyData.int)&&PyData.eqvAll (r.map dh) (t.map dh)):=by simp[PyData.eqvAll,PyData.eqv,dh]
  rw[e,vN,wW,decide_eq_true_eq,ih]
  simp
theorem WQ (a b:cD):PyData.eqv (iJ a) (iJ b)=true↔a=b:=by
 have e:PyData.eqv (iJ a) (iJ b)=((a.w==b.w)&&((a.r==b.r)&&(PyData.eqvAll (a.cs.map PyData.int) (b.cs.map PyData.int)&&((a.s==b.s)&&((a.t==b.t)&&PyData.eqvAll (a.us.map dh) (b.us.map dh)))))):=by
  simp[iJ,PyData.eqv,PyData.eqvAll]
 rw[e,vN]
 simp only[wW,DR,decide_eq_true_eq,beq_iff_eq]
 cases a
 cases b
 simp
def bQ (ws:List Int) (i:Nat) (u:List Int):List Int:=(List.range 3).map fun j=>if ws.getD j 0>i then u.getD j 0 else 0
def cI (ws:List Int) (us:List (List Int)):List (List Int):=(List.range 3).map fun i=>bQ ws i (us.getD i [])
def dB (x:cF) (st:cD):cD:=⟨st.w,st.r,st.cs,if x.e-1<st.s then x.e-1 else st.s,st.t,cI (fC x) st.us⟩
theorem Af {x:cF} {st:cD} (h:fu st):fu (dB x st):=⟨h.c,rfl,fun y hy=>by
 obtain⟨i,_,rfl⟩:=g_.mp (show y∈cI (fC x) st.us from hy)
 rfl⟩
theorem KD {α:Type} {l:List α} (h:l.length=3):∃a b c,l=[a,b,c]:=by
 match l,h with
 | [a,b,c],_=>exact⟨a,b,c,rfl⟩
def Hi:Sp:=fun vs H Q _=>∃(t b:Addr) (i:Nat) (u ws:List Int),vs=[.ref t,.int i,.ref b]/\H t=some (.tup (u.map V.int))/\H b=some (.tup (ws.map V.int))/\u.length=3/\ws.length=3/\∀p H',aC H H'->H' p=some (.tup ((bQ ws i u).map V.int))->Q (.ref p) H'
theorem mj:aR ["triple","place","wants"] ["triple","place","wants"] (aH jB):=(by walk_at "c")
theorem vB (F:jk K "lean_triple" "lean_triple" jB f fd) (B:Bi mg):bM P w K mg base iH (k+1) f fd ["triple","place","wants"] Hi:=by
 refine F.ok mj (by rintro vs H Q E ⟨t,b,i,u,ws,rfl,_⟩; rfl) (fun cdv A outer s H vs Q E hr h=>?_)
 obtain⟨t,b,i,u,ws,rfl,h1,h2,n1,n2,q⟩:=h
 have ND:=mj.nd
 refine⟨_,(aJ (aV (pt (cz) B.tuple cT (aa (eQ (nt:=2) (N':=["number","want","place"]) (js:=[1]) rfl (qg (K:=K) rfl B.zip (aa (pv 0) (aa (pv 2) ak))) kj.of (fun fp s' H'=>(bJ (K:=K) (n:=2) rfl rfl (aD (aF (i:=0) (by show List.Nodup (["number","want","place"]:List Str); decide) rfl (.inl (iK rfl)) (.inr (iK rfl))) (aD (aF (i:=1) (by show List.Nodup (["number","want","place"]:List Str); decide) rfl (.inl (iK rfl)) (.inr (iK rfl))) bI)))) (fun fp s' H'=>gQ) (fun fp s' H'=>(mQ (bw lO (pv 1) (pv 2) (bA _)) (pv 0) ao))) ak)))),?_⟩
 walk_at "rd"
 refine K9 (es:=(bQ ws i u).map PyData.int) (fun R hR=>?_) h1 h2 (by rw[bR,n1]; rfl) (by rw[bR,n2]; rfl) (by show 3<=sizeLine; decide) (cu.mpr fun d hd=>by obtain⟨z,_,rfl⟩:=g_.mp hd; rfl) (fun j x y e H' hx hy he s' R hR=>?_) (fun acc zs H' s' hacc hl hA=>?_)
 ·walk_at "rd"; exact hR
 ·rw[g8] at hx hy
  obtain⟨x',ex,rfl⟩:=nY.mp hx
  obtain⟨y',ey,rfl⟩:=nY.mp hy
  have ee:e=.int (if y'>i then x' else 0):=by
   rw[g8] at he
   obtain⟨z,ez,rfl⟩:=nY.mp he
   unfold bQ at ez
   rw[g8] at ez
   obtain⟨j',ej,rfl⟩:=nY.mp ez
   have:j'=j:=by
    obtain⟨hh,e2⟩:=fK.mp ej
    rw[Hy] at e2
    exact e2.symm
   subst this
   rw[iB,iB,ex,ey]
   rfl
  walk_at "cap"
  walk_at "rd"
  refine iw (fun c=>?_) (fun c=>?_)
  ·refine hR _ _ (aC.refl _) ?_
   rw[ee,aM (by have:=uV c; omega)]
   exact At.int _
  ·refine hR _ _ (aC.refl _) ?_
   rw[ee,aK (by have:=Fx c; omega)]
   exact At.int _
 ·cases cg hA
  refine⟨acc,_,rfl,hl,fun l hl3=>?_⟩
  exact q l _ (s'.trans (aO hl3 _)) az
def uv:Sp:=fun vs H Q _=>∃(v u:V) (x:cF) (st:cD),vs=[v,u]/\At H (iD x) v/\At H (iJ st) u/\Bm x/\fu st/\∀u' H',aC H H'->At H' (iJ (dB x st)) u'->Q u' H'
theorem Lean.of {v u:V} {x:cF} {st:cD} {H:Hp} {Q:VK} {E:XK} (a1:At H (iD x) v) (a2:At H (iJ st) u) (n:Bm x) (i:fu st) (q:∀u' H',aC H H'->At H' (iJ (dB x st)) u'->Q u' H'):uv ([v,u]++[]) H Q E:=⟨v,u,x,st,rfl,a1,a2,n,i,q⟩
theorem Ho:aR ["post","stand","wait","ready","called","since","rest","seen","wants","lean_seen"] ["post","stand"] (aH Fj):=(by walk_at "c")
theorem R0 (F:jk K "lean" "lean" Fj f fd) (B:Bi mg) (wB:Ct P w K mg base k "needed" ["post"] BK) (jH:Ct P w K mg base k "lean_triple" ["triple","place","wants"] Hi):bM P w K mg base iH (k+1) f fd ["post","stand"] uv:=by
 refine F.ok Ho (by rintro vs H Q E ⟨v,u,x,st,rfl,_⟩; rfl) (fun cdv A outer s H vs Q E hr h=>?_)
 obtain⟨v,u,x,st,rfl,hv,hu,hN,hS,q⟩:=h
 have ND:=Ho.nd
 refine⟨_,(aq (dN (pv 1) (bJ (K:=K) (n:=6) rfl rfl (aD (aF (i:=2) ND rfl (by walk_at "o")) (aD (aF (i:=3) ND rfl (by walk_at "o")) (aD (aF (i:=4) ND rfl (by walk_at "o")) (aD (aF (i:=5) ND rfl (by walk_at "o")) (aD (aF (i:=6) ND rfl (by walk_at "o")) (aD (aF (i:=7) ND rfl (by walk_at "o")) bI)))))))) (aq (a_ (i:=8) ND rfl (by walk_at "o") (pf wB hr (aa (pv 0) ak))) (aq (a_ (i:=9) ND rfl (by walk_at "o") (pt (cz) B.tuple cT (aa (eQ (nt:=2) (N':=["place","triple","wants"]) (js:=[8]) rfl (N_ (K:=K) rfl B.enumerate (aa (pv 7) ak)) kj.of (fun fp s' H'=>(bJ (K:=K) (n:=2) rfl rfl (aD (aF (i:=0) (by show List.Nodup (["place","triple","wants"]:List Str); decide) rfl (.inl (iK rfl)) (.inr (iK rfl))) (aD (aF (i:=1) (by show List.Nodup (["place","triple","wants"]:List Str); decide) rfl (.inl (iK rfl)) (.inr (iK rfl))) bI)))) (fun fp s' H'=>gQ) (fun fp s' H'=>(pf jH hr (aa (pv 1) (aa (pv 0) (aa (pv 2) ak)))))) ak))) (aJ (aV (aY (aa (pv 2) (aa (pv 3) (aa (pv 4) (aa (pb (dZ rfl) B.min ji (aa (pv 5) (aa (aZ iu (bz aU (pv 0) ao (fun _ _=>rfl)) ao) ak))) (aa (pv 6) (aa (pv 9) ak)))))))))))),?_⟩
 obtain⟨a,b,c,rfl,h1,h2,h3⟩:=gA hu
 obtain⟨pa,pb,pc,pd,rfl,g1,_⟩:=jX hv
 walk_at "rd"
 refine⟨a,_,rfl,cA.of h1,rfl,?_⟩
 walk_at "rd"
 refine⟨_,x,rfl,hv,hN,fun p H1 s1 e1=>?_⟩
 walk_at "rd"
 obtain⟨c',zs,ec,h4,h5⟩:=bB h3
 cases ec
 have hzl:zs.length=3:=by rw[h5.length,bR,hS.u]
 refine Gu (es:=(cI (fC x) st.us).map dh) (fun R hR=>?_) (s1 _ _ h4) (by rw[hzl]; rfl) (by show 3<=sizeLine; decide) (cu.mpr fun d hd=>by
   obtain⟨z,_,rfl⟩:=g_.mp hd
   exact cu.mpr fun d hd=>by obtain⟨z,_,rfl⟩:=g_.mp hd; rfl) (fun j y e H' hy he s' R hR=>?_) (fun acc zs' H' s' hacc hl hA=>?_)
 ·walk_at "rd"; exact hR
 ·obtain⟨d,hd,ay⟩:=h5.get hy
  rw[g8] at hd
  obtain⟨t,et,rfl⟩:=nY.mp hd
  have ht3:t.length=3:=hS.l t (jW et)
  obtain⟨ty,ts,rfl,k1,k2⟩:=bB ay
  cases cg k2
  have ee:e=dh (bQ (fC x) j t):=by
   rw[g8] at he
   obtain⟨z,ez,rfl⟩:=nY.mp he
   unfold cI at ez
   rw[g8] at ez
   obtain⟨j',ej,rfl⟩:=nY.mp ez
   have:j'=j:=by
    obtain⟨hh,e2⟩:=fK.mp ej
    rw[Hy] at e2
    exact e2.symm
   subst this
   rw[iB,et]
   rfl
  walk_at "cap"
  walk_at "rd"
  refine⟨ty,p,j,t,fC x,rfl,s' _ _ (s1 _ _ k1),s' _ _ e1,ht3,rfl,fun r H2 s2 e2=>?_⟩
  refine hR _ _ s2 ?_
  rw[ee]
  exact At.tup e2 (bD _)
 ·refine⟨acc,zs',rfl,hl,fun l hl3=>?_⟩
  have sl:=aO hl3 (HO.tup zs')
  have A1:At (upd H' l (.tup zs')) (.tuple ((cI (fC x) st.us).map dh)) (.ref l):=At.tup az ((hA.mono gU).mono sl)
  refine Ix.tup (sl _ _ (s' _ _ (s1 _ _ g1))) (bx (j:=4) rfl) ?_
  walk_at "rd"
  refine⟨(by show 6<=sizeLine; decide),fun r H3 f3 s3 e3=>?_⟩
  have ss:aC H H3:=s1.trans (s'.trans (sl.trans s3))
  refine q _ _ ss (At.tup e3 ?_)
  exact aj.cons (At.int _) (aj.cons (At.int _) (aj.cons (At.tup (ss _ _ h2) (bD _)) (aj.cons (At.int _) (aj.cons (At.int _) (aj.cons (A1.mono s3) aj.nil)))))
def jZ (x:cF) (st:cD) (c:Int):cD:=jO x (mX x st c) (Ep x st c 12)
def cM (x:cF):cD->List Int->cD
 | st,[]=>st
 | st,c::cs=>cM x (jZ x st c) cs
theorem jM (x:cF):∀(st:cD) (l:List Int) (c:Int),cM x st (l++[c])=jZ x (cM x st l) c
 | _,[],_=>rfl
 | st,d::l,c=>jM x (jZ x st d) l c
theorem Q0 {x:cF} {st:cD} {ch:Int} (hx:kh x) (hs:fu st):fu (jO x st ch):=by
 have hc:=hs.c
 have ha:=hx.a
 unfold jO
 split
 ·exact hs
 ·split
  ·refine⟨?_,hs.u,hs.l⟩
   simp only[gD,nW,Fw,nU,List.length_nil]
   omega
  ·refine⟨?_,hs.u,hs.l⟩
   simp only[vR]
   exact hc
theorem z_ {x:cF} {st:cD} {c:Int} (hx:kh x) (hs:fu st):fu (jZ x st c):=Q0 hx (Ds hs)
theorem nF {x:cF} (hx:kh x):∀{l:List Int} {st:cD},fu st->fu (cM x st l)
 | [],_,hs=>hs
 | c::l,_,hs=>nF hx (l:=l) (z_ hx hs)
theorem vf {H:Hp} {x:cF} {v:V} (h:At H (iD x) v):∃a b c d,v=.ref a/\H a=some (.tup [.int x.p,.int x.m,.ref b,.int x.a,.int x.e,.ref c,.ref d])/\H b=some (.tup [.int x.lo,.int x.hi])/\H c=some (.tup [.int x.u,.int x.d])/\At H (zK x.eU) (.ref d):=by
 obtain⟨a,xs,rfl,h1,h2⟩:=bB h
 obtain⟨x0,_,rfl,b0,h2⟩:=aj.aX h2
 obtain⟨x1,_,rfl,b1,h2⟩:=aj.aX h2
 obtain⟨x2,_,rfl,b2,h2⟩:=aj.aX h2
 obtain⟨x3,_,rfl,b3,h2⟩:=aj.aX h2
 obtain⟨x4,_,rfl,b4,h2⟩:=aj.aX h2
 obtain⟨x5,_,rfl,b5,h2⟩:=aj.aX h2
 obtain⟨x6,_,rfl,b6,h2⟩:=aj.aX h2
 cases aj.lV h2
 unfold At at b0 b1 b3 b4
 subst b0 b1 b3 b4
 obtain⟨b,ys,rfl,g3,g4⟩:=bB b2
 obtain⟨c,zs,rfl,g1,g2⟩:=bB b5
 obtain⟨d,ws,rfl,_,_⟩:=bB b6
 cases cg (cs:=[x.u,x.d]) g2
 cases cg (cs:=[x.lo,x.hi]) g4
 exact⟨a,b,c,d,rfl,h1,g3,g1,b6⟩
theorem m7:∀cs:List Int,bF (cs.map PyData.int)=true
 | []=>rfl
 | c::cs=>by show(qm (.int c)&&bF (cs.map .int))=true; rw[m7 cs]; rfl
theorem Bs:∀us:List (List Int),bF (us.map dh)=true
 | []=>rfl
 | u::us=>by
  show(bF (u.map PyData.int)&&bF (us.map dh))=true
  rw[Bs us,m7 u]; rfl
theorem pP (n:cD):qm (iJ n)=true:=by
 simp only[iJ,qm,bF,m7,Bs,Bool.and_self]
def M4 (K:PySem.W.Frag):Sp:=fun vs H Q _=>∃(s:Addr) (ns:List Int) (i:Int),vs=[.ref s,.int i]/\gW K H s (ns.map V.int)/\0<=i/\i<=1000/\∀p H',H p=none->aC H H'->Tp H' p 0->Q (.ref p) H'
theorem yf:aR ["_law_script","_law_k","_law_cell"] ["_law_script","_law_k"] (aH uK):=(by walk_at "c")
theorem Ko (F:jk K "_law_tape" "_law_tape" uK f fd) (B:Bi mg):bM P w K mg base iH (k+1) f fd ["_law_script","_law_k"] (M4 K):=by
 refine F.ok yf (by rintro vs H Q E ⟨a,ns,i,rfl,_⟩; rfl) (fun cdv A outer s H vs Q E hr h=>?_)
 obtain⟨a,ns,i,rfl,hS,h0,h1,q⟩:=h
 have ND:=yf.nd
 refine⟨_,(aq (a_ (i:=2) ND rfl (by walk_at "o") (mQ (bw Dj (pv 1) (pb (d7 (K:=K) rfl) B.len lG (aa (pv 0) ak)) (bA _)) (bz Ip (pv 0) (pv 1) (fun _ _=>rfl)) ao)) (aJ (aV (V7 (aa (aZ kY (pb (Eb) B.abs Qx (aa (pv 2) ak)) (pt (yS) B.int Qw (aa (fY U3 (pb (Eb) B.abs Qx (aa (pv 2) ak)) (aZ FT ao ao) (bA _)) ak))) (aa (aZ bN (aZ bN (aZ kZ (pv 2) ao) (aZ kY ao (pv 1))) ao) (aa ao ak))))))),?_⟩
 walk_at "rd"
 refine⟨a,_,rfl,.inl hS,?_⟩
 show ∃i_1 j,V.int i=V.int i_1/\V.int ((ns.map V.int).length:Int)=V.int j/\_
 walk_at "rd"
 have W7:∀c:Int,0<=(if c<0 then -c else c):=fun c=>by split <;> omega
 have fin:∀(c x y:Int),x=(if c<0 then -c else c)*(if decide (10 ^ Int.toNat 18<=(if c<0 then -c else c))=true then 1 else 0)->y=c % 2305843009213693951+39373*i+17->∀p,H p=none->Q (.ref p) (upd H p (.lst [.int x,.int y,.int 0])):=fun c x y ex ey p hp=>by
  have hx:0<=x:=by
   rw[ex]
   have nn:=W7 c
   generalize (if c<0 then -c else c)=u at nn ⊢
   split
   ·rw[Int.mul_one]; exact nn
   ·rw[Int.mul_zero]; exact uR 0
  have h2:=Cd c (show(2305843009213693951:Int)≠0 by decide)
  have h3:=Ci c (show(0:Int)<2305843009213693951 by decide)
  exact q p _ hp (aO hp _) ⟨x,y,0,az,hx,by omega,by omega,uR 0,uR 0⟩
 have cm:∀(c:Int) (b:Bool),T7 c (if b=true then 1 else 0):=fun c b=>.inr (by cases b <;> decide)
 refine iw (fun c1=>?_) (fun c1=>?_)
 ·have c1':=uV c1
  have hi:i.toNat<ns.length:=by rw[bR] at c1'; omega
  refine⟨a,_,i,.int (ns[i.toNat]),rfl,rfl,hS,?_,?_⟩
  ·have:=bx (xs:=ns.map V.int) (j:=i.toNat) (v:=.int (ns[i.toNat])) (by rw[g8,eV hi]; rfl)
   rwa [show((i.toNat:Nat):Int)=i by omega] at this
  ·walk_at "rd"
   refine⟨⟨by decide,by decide,by decide⟩,cm _ _,by decide,.inl (by decide),(by show 3<=sizeLine; decide),fun p hp=>?_⟩
   exact fin _ _ _ rfl rfl p hp
 ·refine⟨⟨by decide,by decide,by decide⟩,cm _ _,by decide,.inl (by decide),(by show 3<=sizeLine; decide),fun p hp=>?_⟩
  exact fin 0 _ _ rfl rfl p hp
def lX:Sp:=fun vs H Q _=>∃(a:Addr) (m:Int) (n:Nat),vs=[.ref a,.int m]/\Tp H a n/\n<=1000000000/\0<m/\m<1000000000000000/\∀v H',0<=v->v<m->Tp H' a (n+1)->SX a H H'->Q (.int v) H'
theorem yg:aR ["_law_tape_here","_law_many","_law_found","_law_once","_law_twice"] ["_law_tape_here","_law_many"] (aH uL):=(by walk_at "c")
theorem Kp (F:jk K "_law_draw" "_law_draw" uL f fd) (B:Bi mg):bM P w K mg base iH (k+1) f fd ["_law_tape_here","_law_many"] lX:=by
 refine F.ok yg (by rintro vs H Q E ⟨a,m,n,rfl,_⟩; rfl) (fun cdv A outer s H vs Q E hr h=>?_)
 obtain⟨a,m,n,rfl,⟨x,y,z,hT,hx,hy,hy2,hz,hz2⟩,hn,hm,hm2,q⟩:=h
 have ND:=yg.nd
 refine⟨_,(aq (dG (bw lO (bz aU (pv 0) ao (fun _ _=>rfl)) ao (bA _)) (aq (a_ (i:=2) ND rfl (by walk_at "o") (aZ kZ (bz aU (pv 0) ao (fun _ _=>rfl)) (pv 1))) (aq (dN (aZ Dk (bz aU (pv 0) ao (fun _ _=>rfl)) (pv 1)) (Oa (pv 0) ao set_list)) (aJ (aV (pv 2))))) bT) (aq (dN (aZ bN (bz aU (pv 0) ao (fun _ _=>rfl)) ao) (Oa (pv 0) ao set_list)) (aq (a_ (i:=3) ND rfl (by walk_at "o") (aZ kZ (aZ FT (aZ bN (bz aU (pv 0) ao (fun _ _=>rfl)) (aZ kY ao (bz aU (pv 0) ao (fun _ _=>rfl)))) ao) ao)) (aq (a_ (i:=4) ND rfl (by walk_at "o") (aZ kZ (aZ kY (aZ bN (pv 3) (bz aU (pv 0) ao (fun _ _=>rfl))) (aZ bN (aZ bN (aZ kZ (pv 3) ao) ao) (bz aU (pv 0) ao (fun _ _=>rfl)))) ao)) (aJ (aV (aZ kZ (aZ RW (aZ kZ (aZ bN (aZ kY (pv 4) ao) (pv 3)) ao) ao) (pv 1)))))))),?_⟩
 walk_at "rd"
 refine Ix.lst hT (bx (j:=0) rfl) ?_
 walk_at "rd"
 refine iw (fun c1=>?_) (fun c1=>?_)
 ·refine Ix.lst hT (bx (j:=0) rfl) ?_
  walk_at "rd"
  refine⟨hm,Ix.lst hT (bx (j:=0) rfl) ?_⟩
  walk_at "rd"
  refine⟨⟨hm,Int.lt_trans hm2 (by decide)⟩,a,_,0,0,rfl,rfl,hT,rfl,?_⟩
  refine q _ _ (Cd _ (by omega)) (Ci _ hm) ⟨x / m,y,z,az,Int.ediv_nonneg hx (by omega),hy,hy2,hz,by omega⟩ SX.upd
 ·refine Ix.lst hT (bx (j:=2) rfl) ?_
  walk_at "rd"
  refine⟨a,_,2,2,rfl,rfl,hT,rfl,?_⟩
  have hT2:upd H a (.lst [.int x,.int y,.int (z+1)]) a=some (.lst [.int x,.int y,.int (z+1)]):=az
  show JV (V.ref a) (V.int 1) (upd H a (.lst [.int x,.int y,.int (z+1)])) _
  generalize eH:upd H a (.lst [.int x,.int y,.int (z+1)])=H2 at hT2 ⊢
  have sx:SX a H H2:=by rw[<- eH]; exact SX.upd
  refine Ix.lst hT2 (bx (j:=1) rfl) (Ix.lst hT2 (bx (j:=2) rfl) ?_)
  walk_at "rd"
  refine⟨.inl (by decide),⟨by decide,by decide,by omega⟩,by decide,Ix.lst hT2 (bx (j:=2) rfl) ?_⟩
  generalize eo:(y+39373*(z+1)) ^ Int.toNat 5 % 2147483647=o
  have o1:0<=o:=by rw[<- eo]; exact Cd _ (by decide)
  have o2:o<2147483647:=by rw[<- eo]; exact Ci _ (by decide)
  walk_at "rd"
  refine⟨by decide,Ix.lst hT2 (bx (j:=2) rfl) ?_⟩
  walk_at "rd"
  have m1:=Cd o (show(40009:Int)≠0 by decide)
  have m2:=Ci o (show(0:Int)<40009 by decide)
  refine⟨.inl (by omega),by decide,?_⟩
  generalize et:(o+(z+1))*(o % 40009+7+(z+1)) % 2147483629=t
  have t1:0<=t:=by rw[<- et]; exact Cd _ (by decide)
  have t2:t<2147483629:=by rw[<- et]; exact Ci _ (by decide)
  refine⟨.inl (by omega),by decide,⟨by decide,by decide⟩,hm,?_⟩
  exact q _ _ (Cd _ (by omega)) (Ci _ hm) ⟨x,y,z+1,hT2,hx,hy,hy2,by omega,by omega⟩ sx
theorem fP.of {a:Addr} {m:Int} {n:Nat} {H:Hp} {Q:VK} {E:XK} (t:Tp H a n) (hn:n<=1000000000) (h1:0<m) (h2:m<1000000000000000) (q:∀v H',0<=v->v<m->Tp H' a (n+1)->SX a H H'->Q (.int v) H'):lX ([.ref a,.int m]++[]) H Q E:=⟨a,m,n,rfl,t,hn,h1,h2,q⟩
def Xy (i:Int):Prop:=0<=i/\i<=1000000000000
def QD (u:List Int):Prop:=∃a b c,u=[a,b,c]/\Xy a/\Xy b/\Xy c
abbrev Cv:=List (Int×Int)
def RJ (p:Int×Int):PyData:=.tuple [.int p.1,.int p.2]
def yN (c:Cv):PyData:=.tuple (c.map RJ)
theorem N5 {H:Hp} {p:Int×Int} {v:V} (h:At H (RJ p) v):∃a,v=.ref a/\H a=some (.tup [.int p.1,.int p.2]):=by
 obtain⟨a,xs,rfl,h1,h2⟩:=bB h
 obtain⟨x1,_,rfl,a1,h2⟩:=aj.aX h2
 obtain⟨x2,_,rfl,a2,h2⟩:=aj.aX h2
 cases aj.lV h2
 unfold At at a1 a2
 subst a1 a2
 exact⟨a,rfl,h1⟩
theorem rK {H:Hp} {c:Cv} {xs:List V} (hA:aj H (c.map RJ) xs) {i:Nat} {x:V} (hx:xs[i]?=some x):∃a,x=.ref a/\i<c.length/\H a=some (.tup [.int (c.getD i (0,0)).1,.int (c.getD i (0,0)).2]):=by
 obtain⟨d,hd,a⟩:=hA.get hx
 rw[g8] at hd
 cases e:c[i]? with
 | none=>rw[e] at hd; simp at hd
 | some r=>
  rw[e] at hd; simp at hd
  subst hd
  obtain⟨b,rfl,hb⟩:=N5 a
  have eg:c.getD i (0,0)=r:=by rw[iB,e]; rfl
  obtain⟨hi,_⟩:=fK.mp e
  rw[eg]
  exact⟨b,rfl,hi,hb⟩
theorem jY (l:List Int):bF (l.map PyData.int)=true:=cu.mpr fun d hd=>by obtain⟨z,_,rfl⟩:=g_.mp hd; rfl
theorem ints_get {l:List Int} {i:Nat} {x:V} (h:(l.map V.int)[i]?=some x):i<l.length/\x=.int (l.getD i 0):=by
 rw[g8] at h
 cases e:l[i]? with
 | none=>rw[e] at h; simp at h
 | some r=>
  rw[e] at h; simp at h
  obtain⟨hi,_⟩:=fK.mp e
  exact⟨hi,by rw[iB,e,<- h]; rfl⟩
theorem iR {l:List Int} {i:Nat} {x:PyData} (h:(l.map PyData.int)[i]?=some x):i<l.length/\x=.int (l.getD i 0):=by
 rw[g8] at h
 cases e:l[i]? with
 | none=>rw[e] at h; simp at h
 | some r=>
  rw[e] at h; simp at h
  obtain⟨hi,_⟩:=fK.mp e
  exact⟨hi,by rw[iB,e,<- h]; rfl⟩
def pR:Sp:=fun vs H Q _=>∃(v:V) (c:Cv),vs=[v]/\At H (yN c) v/\c.length<=100/\∀p H',aC H H'->H' p=some (.tup ((c.map (·.1)).map V.int))->Q (.ref p) H'
theorem pZ:aR ["curve"] ["curve"] (aH mH):=(by walk_at "c")
theorem zZ (F:jk K "bursts_of" "bursts_of" mH f fd) (B:Bi mg):bM P w K mg base iH (k+1) f fd ["curve"] pR:=by
 refine F.ok pZ (by rintro vs H Q E ⟨v,c,rfl,_⟩; rfl) (fun cdv A outer s H vs Q E hr h=>?_)
 obtain⟨v,c,rfl,hv,hn,q⟩:=h
 have ND:=pZ.nd
 refine⟨_,(aJ (aV (pt (cz) B.tuple cT (aa (eQ (nt:=2) (N':=["burst","rate"]) (js:=[]) rfl (jr (K:=K) rfl (pv 0)) kj.of (fun fp s' H'=>(bJ (K:=K) (n:=2) rfl rfl (aD (aF (i:=0) (by show List.Nodup (["burst","rate"]:List Str); decide) rfl (.inl (iK rfl)) (.inr (iK rfl))) (aD (aF (i:=1) (by show List.Nodup (["burst","rate"]:List Str); decide) rfl (.inl (iK rfl)) (.inr (iK rfl))) bI)))) (fun fp s' H'=>gQ) (fun fp s' H'=>(pv 0))) ak)))),?_⟩
 obtain⟨a,xs,rfl,h1,h2⟩:=bB hv
 walk_at "rd"
 have hlen:xs.length=c.length:=by rw[h2.length,bR]
 refine Jh (es:=(c.map (·.1)).map PyData.int) (fun i=>[some (.int (c.getD i (0,0)).1),some (.int (c.getD i (0,0)).2)]) (fun i=>rfl) (fun R hR=>?_) h1 (by rw[bR,bR,hlen]) (by rw[bR,bR]; exact iz (bj (by omega))) (jY _) (fun i x H' hx s' R hR=>?_) (fun i e H' he s' R hR=>?_) (fun acc zs H' s' hacc hl hA=>?_)
 ·walk_at "rd"; exact hR
 ·obtain⟨b,rfl,hi,hb⟩:=rK h2 hx
  refine⟨b,_,rfl,cA.of (s' _ _ hb),rfl,?_⟩
  walk_at "rd"
  exact hR
 ·obtain⟨hi,rfl⟩:=iR he
  walk_at "rd"
  refine hR _ _ (aC.refl _) ?_
  rw[bR] at hi
  have:(c.map (·.1)).getD i 0=(c.getD i (0,0)).1:=by rw[iB,iB,g8,eV hi]; rfl
  rw[this]
  exact At.int _
 ·cases cg hA
  refine⟨acc,_,rfl,hl,fun l hl3=>?_⟩
  exact q l _ (s'.trans (aO hl3 _)) az
def abf:List Int->Int
 | []=>0
 | b::r=>jc b r
def bH (c:Cv) (sp:List Int):Int:=abf (List.zipWith (fun p l=>p.2+l) c sp)
def dW (c:Cv) (sp:List Int) (x:Int):List Int:=List.zipWith (fun p l=>if l+p.2-x<p.1 then l+p.2-x else p.1) c sp
theorem zf {c:Cv} {sp:List Int} (g:Int×Int->Int->Int) {i:Nat} (h1:i<c.length) (h2:i<sp.length):(List.zipWith g c sp).getD i 0=g (c.getD i (0,0)) (sp.getD i 0):=by
 rw[iB,iB,iB,eV h1,eV h2,eV (by rw[wZ]; omega),List.getElem_zipWith]
 rfl
def uo:Sp:=fun vs H Q _=>∃(v:V) (c:Cv) (q:Addr) (sp:List Int),vs=[v,.ref q]/\At H (yN c) v/\H q=some (.tup (sp.map V.int))/\sp.length=c.length/\c≠[]/\c.length<=100/\∀H',aC H H'->Q (.int (bH c sp)) H'
theorem pX:aR ["curve","spare"] ["curve","spare"] (aH mF):=(by walk_at "c")
theorem zX (F:jk K "most_next" "most_next" mF f fd) (B:Bi mg):bM P w K mg base iH (k+1) f fd ["curve","spare"] uo:=by
 refine F.ok pX (by rintro vs H Q E ⟨v,c,q,sp,rfl,_⟩; rfl) (fun cdv A outer s H vs Q E hr h=>?_)
 obtain⟨v,c,qa,sp,rfl,hv,hq,hsp,hne,hn,q⟩:=h
 have ND:=pX.nd
 refine⟨_,(aJ (aV (pb (yQ rfl) B.min ji (aa (eQ (nt:=3) (N':=["burst","rate","left"]) (js:=[]) rfl (qg (K:=K) rfl B.zip (aa (pv 0) (aa (pv 1) ak))) kj.of (fun fp s' H'=>(bJ (K:=K) (n:=2) rfl rfl (aD (bJ (K:=K) (n:=2) rfl rfl (aD (aF (i:=0) (by show List.Nodup (["burst","rate","left"]:List Str); decide) rfl (.inl (iK rfl)) (.inr (iK rfl))) (aD (aF (i:=1) (by show List.Nodup (["burst","rate","left"]:List Str); decide) rfl (.inl (iK rfl)) (.inr (iK rfl))) bI))) (aD (aF (i:=2) (by show List.Nodup (["burst","rate","left"]:List Str); decide) rfl (.inl (iK rfl)) (.inr (iK rfl))) bI)))) (fun fp s' H'=>gQ) (fun fp s' H'=>(aZ bN (pv 1) (pv 2)))) ak)))),?_⟩
 obtain⟨a,xs,rfl,h1,h2⟩:=bB hv
 walk_at "rd"
 have hlen:xs.length=c.length:=by rw[h2.length,bR]
 have zl:(List.zipWith (fun p l=>p.2+l) c sp).length=c.length:=by rw[wZ]; omega
 refine nQ (es:=(List.zipWith (fun p l=>p.2+l) c sp).map PyData.int) (fun i=>[some (.int (c.getD i (0,0)).1),some (.int (c.getD i (0,0)).2),some (.int (sp.getD i 0))]) (fun i=>rfl) (fun R hR=>?_) h1 hq (by rw[bR,zl,hlen]) (by rw[bR,bR,zl,hsp]) (by rw[bR,zl]; exact iz (bj (by omega))) (jY _) (fun i x y p H' hx hy s' hp R hR=>?_) (fun i e H' he s' R hR=>?_) (fun acc zs H' s' hacc hl hA=>?_)
 ·walk_at "rd"; exact hR
 ·obtain⟨b,rfl,hi,hb⟩:=rK h2 hx
  obtain⟨hi2,rfl⟩:=ints_get hy
  refine⟨p,_,rfl,cA.of hp,rfl,?_⟩
  walk_at "rd"
  refine⟨b,_,rfl,cA.of (s' _ _ hb),rfl,?_⟩
  walk_at "rd"
  exact hR
 ·obtain⟨hi,rfl⟩:=iR he
  walk_at "rd"
  refine hR _ _ (aC.refl _) ?_
  rw[zl] at hi
  rw[zf _ hi (by omega)]
  exact At.int _
 ·cases cg hA
  have zn:List.zipWith (fun p l=>p.2+l) c sp≠[]:=fun z=>by rw[z] at zl; exact hne (Nu.mp zl.symm)
  have qq:=q H' s'
  unfold bH at qq
  generalize List.zipWith (fun(p:Int×Int) (l:Int)=>p.2+l) c sp=zz at *
  match zz,zn with
  | b::r,_=>exact⟨acc,b,r,rfl,hl,qq⟩
def ur:Sp:=fun vs H Q _=>∃(v:V) (c:Cv) (q:Addr) (sp:List Int) (x:Int),vs=[v,.ref q,.int x]/\At H (yN c) v/\H q=some (.tup (sp.map V.int))/\sp.length=c.length/\c.length<=100/\∀p H',aC H H'->H' p=some (.tup ((dW c sp x).map V.int))->Q (.ref p) H'
theorem lZ:aR ["curve","spare","come"] ["curve","spare","come"] (aH jz):=(by walk_at "c")
theorem vy (F:jk K "spares_left" "spares_left" jz f fd) (B:Bi mg):bM P w K mg base iH (k+1) f fd ["curve","spare","come"] ur:=by
 refine F.ok lZ (by rintro vs H Q E ⟨v,c,q,sp,x,rfl,_⟩; rfl) (fun cdv A outer s H vs Q E hr h=>?_)
 obtain⟨v,c,qa,sp,x,rfl,hv,hq,hsp,hn,q⟩:=h
 have ND:=lZ.nd
 refine⟨_,(aJ (aV (pt (cz) B.tuple cT (aa (eQ (nt:=3) (N':=["burst","rate","left","come"]) (js:=[2]) rfl (qg (K:=K) rfl B.zip (aa (pv 0) (aa (pv 1) ak))) kj.of (fun fp s' H'=>(bJ (K:=K) (n:=2) rfl rfl (aD (bJ (K:=K) (n:=2) rfl rfl (aD (aF (i:=0) (by show List.Nodup (["burst","rate","left","come"]:List Str); decide) rfl (.inl (iK rfl)) (.inr (iK rfl))) (aD (aF (i:=1) (by show List.Nodup (["burst","rate","left","come"]:List Str); decide) rfl (.inl (iK rfl)) (.inr (iK rfl))) bI))) (aD (aF (i:=2) (by show List.Nodup (["burst","rate","left","come"]:List Str); decide) rfl (.inl (iK rfl)) (.inr (iK rfl))) bI)))) (fun fp s' H'=>gQ) (fun fp s' H'=>(pb (dZ rfl) B.min ji (aa (pv 0) (aa (aZ iu (aZ bN (pv 2) (pv 1)) (pv 3)) ak))))) ak)))),?_⟩
 obtain⟨a,xs,rfl,h1,h2⟩:=bB hv
 walk_at "rd"
 have hlen:xs.length=c.length:=by rw[h2.length,bR]
 have zl:(dW c sp x).length=c.length:=by unfold dW; rw[wZ]; omega
 refine nQ (es:=(dW c sp x).map PyData.int) (fun i=>[some (.int (c.getD i (0,0)).1),some (.int (c.getD i (0,0)).2),some (.int (sp.getD i 0))]) (fun i=>rfl) (fun R hR=>?_) h1 hq (by rw[bR,zl,hlen]) (by rw[bR,bR,zl,hsp]) (by rw[bR,zl]; exact iz (bj (by omega))) (jY _) (fun i x y p H' hx hy s' hp R hR=>?_) (fun i e H' he s' R hR=>?_) (fun acc zs H' s' hacc hl hA=>?_)
 ·walk_at "rd"; exact hR
 ·obtain⟨b,rfl,hi,hb⟩:=rK h2 hx
  obtain⟨hi2,rfl⟩:=ints_get hy
  refine⟨p,_,rfl,cA.of hp,rfl,?_⟩
  walk_at "rd"
  refine⟨b,_,rfl,cA.of (s' _ _ hb),rfl,?_⟩
  walk_at "rd"
  exact hR
 ·obtain⟨hi,rfl⟩:=iR he
  walk_at "cap"
  walk_at "rd"
  refine hR _ _ (aC.refl _) ?_
  rw[zl] at hi
  unfold dW
  rw[zf _ hi (by omega)]
  exact At.int _
 ·cases cg hA
  refine⟨acc,_,rfl,hl,fun l hl3=>?_⟩
  exact q l _ (s'.trans (aO hl3 _)) az
def du (c:Cv):List Int->List Int->Option (List Int)
 | sp,[]=>some sp
 | sp,x::r=>if x>bH c sp then none else du c (dW c sp x) r
theorem ju {c:Cv} {sp:List Int} {x:Int} {r:List Int}:du c sp (x::r)=if x>bH c sp then none else du c (dW c sp x) r:=rfl
theorem pJ {c:Cv} {sp:List Int}:du c sp []=some sp:=rfl
def aa5:Option (List Int)->V->Hp->Prop
 | none,v,_=>v=.non
 | some l,v,H=>∃p,v=.ref p/\H p=some (.tup (l.map V.int))
def uw:Sp:=fun vs H Q _=>∃(v:V) (c:Cv) (q:Addr) (l:List Int),vs=[v,.ref q]/\At H (yN c) v/\H q=some (.lst (l.map V.int))/\c≠[]/\c.length<=100/\∀u H',aC H H'->aa5 (du c (c.map (·.1)) l) u H'->Q u H'
theorem jT:aR ["curve","load","spare","come"] ["curve","load"] (aH ig):=(by walk_at "c")
theorem rC (F:jk K "spares_behind" "spares_behind" ig f fd) (B:Bi mg) (cR:Ct P w K mg base k "bursts_of" ["curve"] pR) (bZ:Ct P w K mg base k "most_next" ["curve","spare"] uo) (dD:Ct P w K mg base k "spares_left" ["curve","spare","come"] ur):bM P w K mg base iH (k+1) f fd ["curve","load"] uw:=by
 refine F.ok jT (by rintro vs H Q E ⟨v,c,q,l,rfl,_⟩; rfl) (fun cdv A outer s H vs Q E hr h=>?_)
 obtain⟨v,c,qa,ls,rfl,hv,hq,hne,hn,q⟩:=h
 have ND:=jT.nd
 refine⟨_,(aq (a_ (i:=2) ND rfl (by walk_at "o") (pf cR hr (aa (pv 0) ak))) (aq (oW PassesOwn.never rfl (h_ (K:=K) rfl (pv 1)) (aF (i:=3) ND rfl (by walk_at "o")) (aq (dG (bw lO (pv 3) (pf bZ hr (aa (pv 0) (aa (pv 2) ak))) (bA _)) (aJ (aV dU)) bT) (aJ (a_ (i:=2) ND rfl (by walk_at "o") (pf dD hr (aa (pv 0) (aa (pv 2) (aa (pv 3) ak)))))))) (aJ (aV (pv 2))))),?_⟩
 walk_at "rd"
 refine⟨_,c,rfl,hv,hn,fun p H1 s1 e1=>?_⟩
 show Bu _ _ _ _ _ _
 rw[uf]
 walk_at "rd"
 refine LK.of (s1 _ _ hq) (fun i σ H'=>∃(p:Addr) (sp:List Int) (o:Option V),σ=[some v,some (.ref qa),some (.ref p),o]/\H' p=some (.tup (sp.map V.int))/\sp.length=c.length/\du c sp (ls.drop i)=du c (c.map (·.1)) ls/\aC H H')
  ⟨p,_,none,rfl,e1,by rw[bR],rfl,s1⟩ (fun i σ H' _ ⟨_,_,_,_,_,_,_,z⟩=>z _ _ hq) ?_ ?_
 ·rintro i x σ H2 hx ⟨p2,sp,o,rfl,h2,l2,b2,s2⟩
  obtain⟨hi,rfl⟩:=ints_get hx
  walk_at "rd"
  refine⟨_,c,p2,sp,rfl,hv.mono s2,h2,l2,hne,hn,fun H3 s3=>?_⟩
  walk_at "rd"
  have ed:ls.drop i=ls.getD i 0::ls.drop (i+1):=by
   rw[Cu hi,iB,eV hi]; rfl
  rw[ed,ju] at b2
  refine iw (fun c1=>?_) (fun c1=>?_)
  ·have c1':=uV c1
   rw[aM c1'] at b2
   refine q _ _ (s2.trans s3) ?_
   rw[<- b2]
   rfl
  ·have c1':¬(ls.getD i 0>bH c sp):=Fx (by simpa using c1)
   rw[aK c1'] at b2
   refine⟨_,c,p2,sp,_,rfl,(hv.mono s2).mono s3,s3 _ _ h2,l2,hn,fun p4 H4 s4 e4=>?_⟩
   refine⟨p4,_,_,rfl,e4,?_,b2,s2.trans (s3.trans s4)⟩
   unfold dW; rw[wZ]; omega
 ·rintro σ H2 ⟨p2,sp,o,rfl,h2,l2,b2,s2⟩
  walk_at "rd"
  rw[bR,Ce,pJ] at b2
  refine q _ _ s2 ?_
  rw[<- b2]
  exact⟨p2,rfl,h2⟩
def tQ (c:Cv) (l:List Int):Bool:=(du c (c.map (·.1)) l).isSome
def Bw:Sp:=fun vs H Q _=>∃(v:V) (c:Cv) (q:Addr) (l:List Int),vs=[v,.ref q]/\At H (yN c) v/\H q=some (.lst (l.map V.int))/\c≠[]/\c.length<=100/\∀H',aC H H'->Q (.bl (tQ c l)) H'
theorem xY:aR ["curve","load"] ["curve","load"] (aH uD):=(by walk_at "c")
theorem Ke (F:jk K "within" "within" uD f fd) (B:Bi mg) (cO:Ct P w K mg base k "spares_behind" ["curve","load"] uw):bM P w K mg base iH (k+1) f fd ["curve","load"] Bw:=by
 refine F.ok xY (by rintro vs H Q E ⟨v,c,q,l,rfl,_⟩; rfl) (fun cdv A outer s H vs Q E hr h=>?_)
 obtain⟨v,c,qa,ls,rfl,hv,hq,hne,hn,q⟩:=h
 have ND:=xY.nd
 refine⟨_,(aJ (aV (fY qi (pf cO hr (aa (pv 0) (aa (pv 1) ak))) dU (bA _)))),?_⟩
 walk_at "rd"
 refine⟨_,c,qa,ls,rfl,hv,hq,hne,hn,fun u H1 s1 e1=>?_⟩
 have qq:=q H1 s1
 unfold tQ at qq
 refine⟨trivial,?_⟩
 cases hb:du c (c.map (·.1)) ls with
 | none=>
  rw[hb] at e1 qq
  cases(show u=.non from e1)
  exact qq
 | some l=>
  rw[hb] at e1 qq
  obtain⟨p,rfl,_⟩:=(show ∃p,u=.ref p/\H1 p=some (.tup (l.map V.int)) from e1)
  exact qq
theorem WX (c:Cv):bF (c.map RJ)=true:=cu.mpr fun d hd=>by obtain⟨z,_,rfl⟩:=g_.mp hd; rfl
def BJ:Sp:=fun vs H Q _=>∃(v:V) (c:Cv) (q:Addr) (l sp:List Int),vs=[v,.ref q]/\At H (yN c) v/\H q=some (.lst (l.map V.int))/\c≠[]/\c.length<=100/\du c (c.map (·.1)) l=some sp/\∀p H',aC H H'->H' p=some (.tup (sp.map V.int))->Q (.ref p) H'
theorem x_:aR ["curve","load","spare"] ["curve","load"] (aH uF):=(by walk_at "c")
theorem Kg (F:jk K "spares" "spares" uF f fd) (B:Bi mg) (cO:Ct P w K mg base k "spares_behind" ["curve","load"] uw):bM P w K mg base iH (k+1) f fd ["curve","load"] BJ:=by
 refine F.ok x_ (by rintro vs H Q E ⟨v,c,q,l,sp,rfl,_⟩; rfl) (fun cdv A outer s H vs Q E hr h=>?_)
 obtain⟨v,c,qa,ls,sp,rfl,hv,hq,hne,hn,hb,q⟩:=h
 have ND:=x_.nd
 refine⟨_,(aq (a_ (i:=2) ND rfl (by walk_at "o") (pf cO hr (aa (pv 0) (aa (pv 1) ak)))) (aq (dG (bw FW (pv 2) dU (bA _)) (aJ YZ) bT) (aJ (aV (pv 2))))),?_⟩
 walk_at "rd"
 refine⟨_,c,qa,ls,rfl,hv,hq,hne,hn,fun u H1 s1 e1=>?_⟩
 rw[hb] at e1
 obtain⟨p,rfl,e2⟩:=(show ∃p,u=.ref p/\H1 p=some (.tup (sp.map V.int)) from e1)
 refine⟨trivial,?_⟩
 rw[aK (by rw[decide_eq_true_eq]; exact fun z=>by cases z)]
 exact q _ _ s1 e2
structure TY (r:fZ):Prop where
 is:oE r
 g:r.g∈(["over","under","each"]:List Str)
theorem Rm (r:fZ):qm (p_ r)=true:=rfl
theorem BZ (rs:List fZ):qm (oA rs)=true:=by
 show bF (rs.map p_)=true
 exact cu.mpr fun d hd=>by obtain⟨r,_,rfl⟩:=g_.mp hd; rfl
structure ZQ (rs:List fZ):Prop where
 lo:1<=rs.length
 hi:rs.length<=4
 g:∀r∈rs,TY r
structure W8 (x:cF):Prop where
 p:1<=x.p/\x.p<=1000000000000000000
 m:Xy x.m
 lo:0<=x.lo/\x.lo<=x.hi
 hi:x.hi<=12
 a:x.a<=4
 e:1<=x.e/\x.e<=6
 u:0<=x.u/\x.u<=9
 d:0<=x.d/\x.d<=9
 n:x.eU.length<=3
 r:∀rs∈x.eU,ZQ rs
structure PsT (x:cF):Prop where
 l:W8 x
 p:x.p<=1000000
 n:∀rs∈x.eU,∀r∈rs,r.n<=1000000000000
theorem W8.is {x:cF} (h:W8 x):kh x:=⟨h.a,by have:=h.p; omega,by have:=h.n; omega,fun rs hrs r hr=>((h.r rs hrs).g r hr).is⟩
def Fe:Sp:=fun vs H Q _=>∃(a:Addr) (n:Nat),vs=[.ref a]/\Tp H a n/\n<=800000000/\∀v r H',(TY r/\r.n<=1000000000000)->At (hid a H') (p_ r) v->Tp H' a (n+12)->SX a H H'->Q v H'
theorem acf.of {a:Addr} {n:Nat} {H:Hp} {Q:VK} {E:XK} (t:Tp H a n) (hn:n<=800000000) (q:∀v r H',(TY r/\r.n<=1000000000000)->At (hid a H') (p_ r) v->Tp H' a (n+12)->SX a H H'->Q v H'):Fe ([.ref a]++[]) H Q E:=⟨a,n,rfl,t,hn,q⟩
theorem BV:aR ["_law_tape_here","_law_sign","_law_what","_law_span","_law_number","_law_step"] ["_law_tape_here"] (aH zE):=(by walk_at "c")
theorem Oo (F:jk K "_law_row" "_law_row" zE f fd) (B:Bi mg) (bf:Ct P w K mg base k "_law_draw" ["_law_tape_here","_law_many"] lX):bM P w K mg base iH (k+1) f fd ["_law_tape_here"] Fe:=by
 refine F.ok BV (by rintro vs H Q E ⟨a,n,rfl,_⟩; rfl) (fun cdv A outer s H vs Q E hr h=>?_)
 obtain⟨a,n,rfl,tp,hn,q⟩:=h
 have ND:=BV.nd
 refine⟨_,(aq (a_ (i:=1) ND rfl (by walk_at "o") (bz aU (cX (aa fX (aa fX (aa fX ak)))) (pf bf hr (aa (pv 0) (aa ao ak))) (fun _ _=>rfl))) (aq (a_ (i:=2) ND rfl (by walk_at "o") (bz aU (cX (aa fX (aa fX (aa fX (aa fX ak))))) (pf bf hr (aa (pv 0) (aa ao ak))) (fun _ _=>rfl))) (aq (a_ (i:=3) ND rfl (by walk_at "o") (bz aU (cX (aa ao (aa ao (aa ao (aa (aZ bN ao (pf bf hr (aa (pv 0) (aa ao ak)))) ak))))) (pf bf hr (aa (pv 0) (aa ao ak))) (fun _ _=>rfl))) (aq (a_ (i:=4) ND rfl (by walk_at "o") (pf bf hr (aa (pv 0) (aa ao ak)))) (aq (dG (bw mU (pv 1) fX (bA _)) (aJ (aV (aY (aa (pv 2) (aa (pv 3) (aa (pv 1) (aa (pb (iT rfl) B.max lF (aa ao (aa (pv 4) ak))) (aa ao ak)))))))) bT) (aq (a_ (i:=5) ND rfl (by walk_at "o") (aZ bN ao (pf bf hr (aa (pv 0) (aa ao ak))))) (aJ (aV (aY (aa (pv 2) (aa (pv 3) (aa (pv 1) (aa (pv 4) (aa (mQ (bw Dj (aZ bN (pf bf hr (aa (pv 0) (aa ao ak))) (aZ kY (pt (yS) B.int Qw (aa (fY mU (pv 1) fX (bA _)) ak)) ao)) ao (bA _)) (pv 5) (aZ iu ao (pv 5))) ak)))))))))))))),?_⟩
 walk_at "rd"
 refine⟨(by decide),fun p1 H1 f1 s1 e1=>?_⟩
 refine fP.of (tp.same s1) (by omega) (by decide) (by decide) fun y1 H2 l2 u2 t2 s2=>?_
 have n1:p1≠a:=tp.ne f1
 obtain⟨g,hg,eg⟩:=yC (ts:=["over","under","each"]) l2 u2
 refine Ix.lst (s2.get n1 e1) eg ?_
 refine⟨(by decide),fun p3 H3 f3 s3 e3=>?_⟩
 refine fP.of (t2.same s3) (by omega) (by decide) (by decide) fun y4 H4 l4 u4 t4 s4=>?_
 have n3:p3≠a:=t2.ne f3
 obtain⟨w,hw,ew⟩:=yC (ts:=["come","done","wait","wait"]) l4 u4
 have hw':w∈(["come","done","wait"]:List Str):=by
  simp only[b8,qd,or_false] at hw ⊢
  rcases hw with z | z | z | z
  ·exact .inl z
  ·exact .inr (.inl z)
  ·exact .inr (.inr z)
  ·exact .inr (.inr z)
 refine Ix.lst (s4.get n3 e3) ew ?_
 have sx4:SX a H H4:=(SX.of s1).trans (s2.trans ((SX.of s3).trans s4))
 have fin:∀(sp:Nat) (nn tt:Int) (H8:Hp) (m:Nat),(1<=sp/\sp<=4)->Tp H8 a m->m<=n+12->SX a H H8->(0<=nn/\nn<=1000000000000)->(g = "each" -> 1<=nn)->∀p H',H8 p=none->aC H8 H'->H' p=some (.tup [.str w,.int sp,.str g,.int nn,.int tt])->Q (.ref p) H':=fun sp nn tt H8 m hsp t8 hm s8 hnn hge p H' fp sp' ep=>by
  have pa:p≠a:=t8.ne fp
  refine q _ ⟨w,sp,g,nn,tt⟩ H' ⟨⟨⟨hw',hsp,⟨hnn.1,Int.le_trans hnn.2 (by decide)⟩,hge⟩,hg⟩,hnn.2⟩ (At.tup (by rw[bW pa]; exact ep) ?_) ((t8.same sp').mono hm) (s8.trans (SX.of sp'))
  exact aj.cons (At.str _) (aj.cons (At.int _) (aj.cons (At.str _) (aj.cons (At.int _) (aj.cons (At.int _) aj.nil))))
 try walk_at "rd"
 refine fP.of t4 (by omega) (by decide) (by decide) fun y5 H5 l5 u5 t5 s5=>?_
 walk_at "rd"
 refine⟨(by decide),fun p6 H6 f6 s6 e6=>?_⟩
 refine fP.of (t5.same s6) (by omega) (by decide) (by decide) fun y7 H7 l7 u7 t7 s7=>?_
 have n6:p6≠a:=t5.ne f6
 obtain⟨x,hx,ex⟩:=iM (ts:=[1,1,1,1+y5]) l7 u7
 refine Ix.lst (s7.get n6 e6) ex ?_
 have hx':1<=x/\x<=4:=by
  simp only[b8,qd,or_false] at hx
  rcases hx with rfl | rfl | rfl | rfl <;> omega
 refine fP.of t7 (by omega) (by decide) (by decide) fun num H8 l8 u8 t8 s8=>?_
 walk_at "rd"
 obtain⟨sp,rfl⟩:∃sp:Nat,x=(sp:Int):=⟨x.toNat,by omega⟩
 have sx:SX a H H8:=sx4.trans (s5.trans ((SX.of s6).trans (s7.trans s8)))
 refine iw (fun c1=>?_) (fun c1=>?_)
 ·exact⟨(by decide),fin _ _ _ H8 _ (by omega) t8 (by omega) sx (by split <;> omega) (fun _=>by split <;> omega)⟩
 ·have c1':=Fx c1
  refine fP.of t8 (by omega) (by decide) (by decide) fun y8 H9 l9 u9 t9 s9=>?_
  walk_at "rd"
  refine fP.of t9 (by omega) (by decide) (by decide) fun y9 Bj l10 u10 Yp rY=>?_
  walk_at "rd"
  refine⟨.inr (by decide),?_⟩
  refine iw (fun c2=>?_) (fun c2=>?_)
  ·exact⟨(by decide),fin _ _ _ Bj _ (by omega) Yp (by omega) (sx.trans (s9.trans rY)) (by omega) (fun z=>absurd z c1')⟩
  ·exact⟨(by decide),fin _ _ _ Bj _ (by omega) Yp (by omega) (sx.trans (s9.trans rY)) (by omega) (fun z=>absurd z c1')⟩
structure En where
 st:cD
 sp:List Int
 fr:Option (Nat×Int)
def ph (st:cD) (sp:List Int):PyData:=.tuple [iJ st,.tuple (sp.map .int)]
def En.key (e:En):PyData:=ph e.st e.sp
def frD:Option (Nat×Int)->List PyData
 | none=>[.none,.none]
 | some (p,c)=>[.int p,.int c]
def fM (e:En):PyData:=.tuple ([iJ e.st,.tuple (e.sp.map .int)]++frD e.fr)
def en0:En:=⟨⟨0,0,[],0,0,[]⟩,[],none⟩
def cC (es:List En) (p:Nat):En:=es.getD p en0
def Eh (x:cF) (e:En) (c:Int):cD:=dB x (jZ x e.st c)
def Ei (x:cF) (e:En) (c:Int):Int:=c-dF x e.st c
def oX (x:cF) (cv:Cv) (e:En) (p:Nat) (c:Int):En:=⟨Eh x e c,dW cv e.sp c,some (p,c)⟩
noncomputable def Bd (x:cF) (cv:Cv) (e:En) (p:Nat) (es:List En) (c:Nat):List En:=if(oX x cv e p c).key∈es.map En.key then es else es++[oX x cv e p c]
noncomputable def Px (x:cF) (cv:Cv) (e:En) (p:Nat) (es:List En):Nat->List En
 | 0=>es
 | c+1=>Bd x cv e p (Px x cv e p es c) c
def km (cv:Cv) (e:En):Nat:=(bH cv e.sp+1).toNat
noncomputable def aG (x:cF) (cv:Cv) (st:cD):Nat->List En
 | 0=>[⟨dB x st,cv.map (·.1),none⟩]
 | p+1=>if p<(aG x cv st p).length then Px x cv (cC (aG x cv st p) p) p (aG x cv st p) (km cv (cC (aG x cv st p) p)) else aG x cv st p
theorem gG (x:cF) (cv:Cv) (st:cD) (p:Nat):aG x cv st (p+1)=if p<(aG x cv st p).length then Px x cv (cC (aG x cv st p) p) p (aG x cv st p) (km cv (cC (aG x cv st p) p)) else aG x cv st p:=rfl
noncomputable def bL (x:cF) (cv:Cv) (st:cD) (p c:Nat):List En:=Px x cv (cC (aG x cv st p) p) p (aG x cv st p) c
def Bb (x:cF) (bd:Option Int) (e:En) (c:Int):Bool:=match bd with
 | none=>false
 | some b=>decide ((Eh x e c).w>b) || decide (Ei x e c>0)
theorem Jq {x:cF} {cv:Cv} {e:En} {p:Nat} {es:List En} {c:Nat}:∃r,Bd x cv e p es c=es++r:=by
 unfold Bd
 split
 ·exact⟨[],by simp⟩
 ·exact⟨_,rfl⟩
theorem vO {x:cF} {cv:Cv} {e:En} {p:Nat} {es:List En}:∀c,∃r,Px x cv e p es c=es++r
 | 0=>⟨[],by simp[Px]⟩
 | c+1=>by
  obtain⟨r,hr⟩:=vO (x:=x) (cv:=cv) (e:=e) (p:=p) (es:=es) c
  obtain⟨r',hr'⟩:=Jq (x:=x) (cv:=cv) (e:=e) (p:=p) (es:=Px x cv e p es c) (c:=c)
  exact⟨r++r',by show Bd x cv e p (Px x cv e p es c) c=_; rw[hr',hr,Cg]⟩
theorem Pb {x:cF} {cv:Cv} {st:cD} (p:Nat):∃r,aG x cv st (p+1)=aG x cv st p++r:=by
 rw[gG]
 split
 ·exact vO _
 ·exact⟨[],by simp⟩
theorem jt {x:cF} {cv:Cv} {st:cD} (p:Nat):∀d,∃r,aG x cv st (p+d)=aG x cv st p++r
 | 0=>⟨[],by simp⟩
 | d+1=>by
  obtain⟨r,hr⟩:=jt (x:=x) (cv:=cv) (st:=st) p d
  obtain⟨r',hr'⟩:=Pb (x:=x) (cv:=cv) (st:=st) (p+d)
  exact⟨r++r',by rw[<- B_,hr',hr,Cg]⟩
theorem tY {x:cF} {cv:Cv} {st:cD} (p:Nat):1<=(aG x cv st p).length:=by
 obtain⟨r,hr⟩:=jt (x:=x) (cv:=cv) (st:=st) 0 p
 rw[sy] at hr
 rw[hr]
 simp[aG]
theorem mZ {x:cF} {cv:Cv} {st:cD} {p q:Nat} (h:p<=q):(aG x cv st p).length<=(aG x cv st q).length:=by
 obtain⟨r,hr⟩:=jt (x:=x) (cv:=cv) (st:=st) p (q-p)
 rw[show p+(q-p)=q by omega] at hr
 rw[hr,gD]; omega
theorem mY {x:cF} {cv:Cv} {st:cD} {p:Nat} (h:p<(aG x cv st p).length):aG x cv st (p+1)=bL x cv st p (km cv (cC (aG x cv st p) p)):=by
 rw[gG,aM h]; rfl
theorem Io {x:cF} {cv:Cv} {st:cD} {n:Nat} (h:(aG x cv st n).length=n):∀d,aG x cv st (n+d)=aG x cv st n
 | 0=>rfl
 | d+1=>by
  have ih:=Io h d
  rw[<- B_,gG,ih,aK (by rw[h]; omega)]
structure rP (cv:Cv) (e:En):Prop where
 st:fu e.st
 sl:e.sp.length=cv.length
 sp:∀(i:Nat) (b s:Int),(cv.map (·.1))[i]?=some b->e.sp[i]?=some s->s<=b
 nn:∀s∈e.sp,0<=s
structure El (cv:Cv):Prop where
 ne:cv≠[]
 n:cv.length<=10
 u:∀p∈cv,0<=p.1/\0<=p.2
theorem Ih:∀(r:List Int) (b:Int),jc b r∈b::r/\∀y∈b::r,jc b r<=y
 | [],b=>⟨by simp[jc],fun y hy=>by rw[fj.mp hy]; exact uR _⟩
 | x::r,b=>by
  have e:jc b (x::r)=jc (if x<b then x else b) r:=rfl
  rw[e]
  obtain⟨m,hm,h4,h5,h6⟩:∃m,(if x<b then x else b)=m/\m<=b/\m<=x/\(m=b\/m=x):=⟨_,rfl,by split <;> omega,by split <;> omega,by split <;> simp⟩
  rw[hm]
  obtain⟨h1,h2⟩:=Ih r m
  have h3:=h2 _ (jo)
  refine⟨?_,fun y hy=>?_⟩
  ·rcases b8.mp h1 with z | z
   ·rw[z]; rcases h6 with q | q <;> simp[q]
   ·simp[z]
  ·simp only[b8] at hy
   rcases hy with z | z | z
   ·omega
   ·omega
   ·exact h2 y (il _ z)
theorem Ad {cv:Cv} {sp:List Int} (hn:cv≠[]) (hl:sp.length=cv.length):(∃(i:Nat) (p:Int×Int) (l:Int),cv[i]?=some p/\sp[i]?=some l/\bH cv sp=p.2+l)/\∀(i:Nat) (p:Int×Int) (l:Int),cv[i]?=some p->sp[i]?=some l->bH cv sp<=p.2+l:=by
 unfold bH
 have hlen:(List.zipWith (fun(p:Int×Int) l=>p.2+l) cv sp).length=cv.length:=by rw[wZ,hl,Nat.min_self]
 have get:∀i:Nat,(List.zipWith (fun(p:Int×Int) l=>p.2+l) cv sp)[i]?=match cv[i]?,sp[i]? with | some p,some l=>some (p.2+l) | _,_=>none:=fun i=>by rw[HH]; cases cv[i]? <;> cases sp[i]? <;> rfl
 generalize List.zipWith (fun(p:Int×Int) l=>p.2+l) cv sp=zs at hlen get
 match zs,hlen with
 | [],hlen=>exact absurd (Nu.mp hlen.symm) hn
 | b::r,_=>
  obtain⟨h1,h2⟩:=Ih r b
  refine⟨?_,fun i p l e1 e2=>h2 _ (jW (i:=i) (by rw[get,e1,e2]))⟩
  obtain⟨i,hi⟩:=Cm.mp h1
  rw[get] at hi
  cases e1:cv[i]? with
  | none=>rw[e1] at hi; cases hi
  | some p=>
   cases e2:sp[i]? with
   | none=>rw[e1,e2] at hi; cases hi
   | some l=>rw[e1,e2] at hi; exact⟨i,p,l,e1,e2,(Option.some.inj hi).symm⟩
theorem Ac {cv:Cv} {sp:List Int} (h:El cv) (hl:sp.length=cv.length) (hs:∀s∈sp,0<=s):0<=bH cv sp:=by
 obtain⟨⟨i,p,l,e1,e2,e⟩,_⟩:=Ad h.ne hl
 have:=h.u p (jW e1)
 have:=hs l (jW e2)
 omega
theorem Su {cv:Cv} {sp:List Int} {c:Int} (h:El cv) (hl:sp.length=cv.length) (hc:c<=bH cv sp):∀s∈dW cv sp c,0<=s:=fun s hs=>by
 obtain⟨i,hi⟩:=Cm.mp hs
 unfold dW at hi
 rw[HH] at hi
 cases e1:cv[i]? with
 | none=>rw[e1] at hi; cases hi
 | some p=>
  cases e2:sp[i]? with
  | none=>rw[e1,e2] at hi; cases hi
  | some l=>
   rw[e1,e2] at hi
   cases hi
   have:=(Ad h.ne hl).2 i p l e1 e2
   have:=h.u p (jW e1)
   show 0<=(if l+p.2-c<p.1 then l+p.2-c else p.1)
   split <;> omega
theorem O9 {cv:Cv} {sp:List Int} {c:Int} (h:sp.length=cv.length):(dW cv sp c).length=cv.length:=by
 unfold dW
 rw[wZ,h,Nat.min_self]
theorem Sv {cv:Cv} {sp:List Int} {c:Int} {i:Nat} {b s:Int} (h1:(cv.map (·.1))[i]?=some b) (h2:(dW cv sp c)[i]?=some s):s<=b:=by
 unfold dW at h2
 rw[HH] at h2
 rw[g8] at h1
 cases e1:cv[i]? with
 | none=>rw[e1] at h1; cases h1
 | some q=>
  rw[e1] at h1 h2
  cases h1
  cases e2:sp[i]? with
  | none=>rw[e2] at h2; cases h2
  | some l=>
   rw[e2] at h2
   cases h2
   show(if l+q.2-c<q.1 then l+q.2-c else q.1)<=q.1
   split <;> omega
theorem Wg {x:cF} {cv:Cv} {e:En} {p:Nat} {c:Int} (hx:kh x) (hv:El cv) (h:rP cv e) (hc:c<=bH cv e.sp):rP cv (oX x cv e p c):=
 ⟨Af (z_ hx h.st),O9 h.sl,fun i b s h1 h2=>Sv h1 h2,Su hv h.sl hc⟩
theorem Tz {x:cF} {cv:Cv} {e:En} {p:Nat} {es:List En} {c:Nat} (hx:kh x) (hv:El cv) (he:rP cv e) (hc:c<km cv e) (h:∀y∈es,rP cv y):∀y∈Bd x cv e p es c,rP cv y:=by
 have hc':(c:Int)<=bH cv e.sp:=by unfold km at hc; omega
 unfold Bd
 split
 ·exact h
 ·intro y hy
  rcases oV.mp hy with z | z
  ·exact h y z
  ·rw[fj.mp z]; exact Wg hx hv he hc'
theorem Pu {x:cF} {cv:Cv} {e:En} {p:Nat} {es:List En} (hx:kh x) (hv:El cv) (he:rP cv e) (h:∀y∈es,rP cv y):∀c,c<=km cv e->∀y∈Px x cv e p es c,rP cv y
 | 0,_=>h
 | c+1,hc=>Tz hx hv he hc (Pu hx hv he h c (by omega))
theorem jw {es:List En} {p:Nat} (h:p<es.length):cC es p∈es/\es[p]?=some (cC es p):=by
 have e:es[p]?=some (cC es p):=by unfold cC; rw[iB,eV h]; rfl
 exact⟨jW e,e⟩
theorem Ah {x:cF} {cv:Cv} {st:cD} (hx:kh x) (hv:El cv) (hs:fu st):∀p,∀y∈aG x cv st p,rP cv y
 | 0=>fun y hy=>by
  rw[fj.mp hy]
  exact⟨Af hs,by rw[bR],fun i b s h1 h2=>by
   have h2:(cv.map (·.1))[i]?=some s:=h2
   rw[h1] at h2; cases h2; exact uR _,fun s hs'=>by
   obtain⟨p,hp,rfl⟩:=g_.mp (show s∈cv.map (·.1) from hs')
   exact(hv.u p hp).1⟩
 | p+1=>by
  have ih:=Ah (cv:=cv) hx hv hs p
  rw[gG]
  split
  ·rename_i h
   exact Pu hx hv (ih _ (jw h).1) ih _ (cW _)
  ·exact ih
theorem yE:∀{l l':List Int} {b b':Int},b<=b'->l.length=l'.length->(∀(i:Nat) (x y:Int),l[i]?=some x->l'[i]?=some y->x<=y)->jc b l<=jc b' l'
 | [],[],b,b',h,_,_=>h
 | [],_::_,_,_,_,h,_=>by simp at h
 | _::_,[],_,_,_,h,_=>by simp at h
 | x::l,y::l',b,b',h,hl,ha=>by
  have h0:=ha 0 x y rfl rfl
  show jc (if x<b then x else b) l<=jc (if y<b' then y else b') l'
  refine yE ?_ (by simpa using hl) fun i x' y' h1 h2=>ha (i+1) x' y' h1 h2
  split <;> split <;> omega
theorem R9 {cv:Cv} {sp:List Int} (hl:sp.length=cv.length) (h:∀(i:Nat) (b s:Int),(cv.map (·.1))[i]?=some b->sp[i]?=some s->s<=b):bH cv sp<=bH cv (cv.map (·.1)):=by
 unfold bH
 have key:∀(i:Nat) (x y:Int),(List.zipWith (fun(p:Int×Int) l=>p.2+l) cv sp)[i]?=some x->(List.zipWith (fun(p:Int×Int) l=>p.2+l) cv (cv.map (·.1)))[i]?=some y->x<=y:=fun i x y h1 h2=>by
  rw[HH] at h1 h2
  cases e1:cv[i]? with
  | none=>rw[e1] at h1; cases h1
  | some q=>
   have e2:(cv.map (·.1))[i]?=some q.1:=by rw[g8,e1]; rfl
   rw[e1,e2] at h2
   rw[e1] at h1
   cases e3:sp[i]? with
   | none=>rw[e3] at h1; cases h1
   | some l=>
    rw[e3] at h1
    cases h1; cases h2
    have:=h i q.1 l e2 e3
    show q.2+l<=q.2+q.1
    omega
 have l1:(List.zipWith (fun(p:Int×Int) l=>p.2+l) cv sp).length=cv.length:=by rw[wZ,hl,Nat.min_self]
 have l2:(List.zipWith (fun(p:Int×Int) l=>p.2+l) cv (cv.map (·.1))).length=cv.length:=by rw[wZ,bR,Nat.min_self]
 generalize List.zipWith (fun(p:Int×Int) l=>p.2+l) cv sp=a at key l1
 generalize List.zipWith (fun(p:Int×Int) l=>p.2+l) cv (cv.map (·.1))=b at key l2
 match a,b,l1,l2 with
 | [],[],_,_=>exact uR _
 | [],_::_,l1,l2=>rw[<- l1] at l2; simp at l2
 | _::_,[],l1,l2=>rw[<- l1] at l2; simp at l2
 | x::a,y::b,l1,l2=>
  exact yE (key 0 x y rfl rfl) (by simp at l1 l2; omega) fun i x' y' h1 h2=>key (i+1) x' y' h1 h2
theorem Vc {cv:Cv} {e:En} (h:rP cv e) (hw:bH cv (cv.map (·.1))<=23):km cv e<=24:=by
 have:=R9 h.sl h.sp
 unfold km
 omega
theorem o_ (st:cD) (sp:List Int):oH (ph st sp):=by
 have hi:∀l:List Int,d9 (l.map .int)=true:=fun l=>vG.mpr fun d hd=>by obtain⟨x,_,rfl⟩:=g_.mp hd; rfl
 have ht:d9 (st.us.map dh)=true:=vG.mpr fun d hd=>by
  obtain⟨u,_,rfl⟩:=g_.mp hd
  exact hi u
 refine⟨⟨_,rfl⟩,?_,?_⟩
 ·show d9 _=true
  simp only[d9,oY,iJ,hi,ht,Bool.and_self]
 ·have di:∀l:List Int,PyData.depthAll (l.map .int)<=0:=fun l=>by
   induction l with
   | nil=>exact cW _
   | cons x l ih=>show max 0 (PyData.depthAll (l.map .int))<=0; omega
  have dt:PyData.depthAll (st.us.map dh)<=1:=by
   generalize st.us=us
   induction us with
   | nil=>exact e_ _
   | cons u us ih=>
    have:=di u
    show max (PyData.depthAll (u.map .int)+1) (PyData.depthAll (us.map dh))<=1
    omega
  have d1:=di st.cs
  have d2:=di sp
  unfold ph iJ
  simp only[PyData.depth,PyData.depthAll]
  omega
def y_ (x:cF) (cv:Cv) (st:cD) (bd:Option Int) (p c:Nat):Prop:=∀p' c':Nat,(p'<p\/p'=p/\c'<c)->p'<(aG x cv st p').length->c'<km cv (cC (aG x cv st p') p')->Bb x bd (cC (aG x cv st p') p') c'=false
structure eG (x:cF) (cv:Cv) (st:cD) (bd:Option Int) (lim:Int) (n:Nat):Prop where
 hn:(aG x cv st n).length=n
 hb:y_ x cv st bd n 0
 hl:n=1\/(n:Int)<=lim
structure wO (x:cF) (cv:Cv) (st:cD) (bd:Option Int) (lim:Int) (p c:Nat):Prop where
 hp:p<(aG x cv st p).length
 hc:c<km cv (cC (aG x cv st p) p)
 hb:y_ x cv st bd p c
 hk:Bb x bd (cC (aG x cv st p) p) c=true
 hl:(bL x cv st p c).length=1\/((bL x cv st p c).length:Int)<=lim
structure wK (x:cF) (cv:Cv) (st:cD) (bd:Option Int) (lim:Int) (p c:Nat):Prop where
 hp:p<(aG x cv st p).length
 hc:c<km cv (cC (aG x cv st p) p)
 hb:y_ x cv st bd p (c+1)
 hk:(oX x cv (cC (aG x cv st p) p) p c).key∉(bL x cv st p c).map En.key
 hl:lim<=(bL x cv st p c).length
def bU (es:List En):Nat->Nat->List Int
 | 0,_=>[]
 | fuel+1,p=>match (cC es p).fr with
  | none=>[]
  | some (q,c)=>bU es fuel q++[c]
theorem jx {es r:List En} {p:Nat} (h:p<es.length):cC (es++r) p=cC es p:=by
 unfold cC
 rw[iB,iB,Cw h]
theorem Tu {x:cF} {cv:Cv} {st:cD} {p c:Nat} (h:p<(aG x cv st p).length):cC (bL x cv st p c) p=cC (aG x cv st p) p:=by
 obtain⟨r,hr⟩:=vO (x:=x) (cv:=cv) (e:=cC (aG x cv st p) p) (p:=p) (es:=aG x cv st p) c
 unfold bL
 rw[hr,jx h]
theorem nO {x:cF} {cv:Cv} {st:cD} {p c:Nat}:(aG x cv st p).length<=(bL x cv st p c).length:=by
 obtain⟨r,hr⟩:=vO (x:=x) (cv:=cv) (e:=cC (aG x cv st p) p) (p:=p) (es:=aG x cv st p) c
 unfold bL
 rw[hr,gD]; omega
theorem i_ {x:cF} {cv:Cv} {st:cD} {p c:Nat}:bL x cv st p (c+1)=if(oX x cv (cC (aG x cv st p) p) p c).key∈(bL x cv st p c).map En.key then bL x cv st p c else bL x cv st p c++[oX x cv (cC (aG x cv st p) p) p c]:=rfl
def xN (es:List En):Prop:=∀(i q:Nat) (c:Int),i<es.length->(cC es i).fr=some (q,c)->q<i
theorem xN.snoc {es:List En} {e:En} (h:xN es) (he:∀q c,e.fr=some (q,c)->q<es.length):xN (es++[e]):=fun i q c hi hf=>by
 by_cases z:i<es.length
 ·rw[jx z] at hf; exact h i q c z hf
 ·have:i=es.length:=by rw[gD] at hi; simp at hi; omega
  subst this
  have ee:cC (es++[e]) es.length=e:=by unfold cC; rw[iB,zO (cW _),zL]; rfl
  rw[ee] at hf
  exact he q c hf
theorem Pq {x:cF} {cv:Cv} {e:En} {p:Nat} {es:List En} (hp:p<es.length) (h:xN es):∀c,xN (Px x cv e p es c)
 | 0=>h
 | c+1=>by
  have ih:=Pq (x:=x) (cv:=cv) (e:=e) hp h c
  show xN (Bd x cv e p (Px x cv e p es c) c)
  unfold Bd
  split
  ·exact ih
  ·refine ih.snoc fun q c' hf=>?_
   cases hf
   obtain⟨r,hr⟩:=vO (x:=x) (cv:=cv) (e:=e) (p:=p) (es:=es) c
   rw[hr,gD]; omega
theorem rE {x:cF} {cv:Cv} {st:cD}:∀p,xN (aG x cv st p)
 | 0=>fun i q c hi hf=>by
  have:i=0:=by simp[aG] at hi; exact hi
  subst this
  cases hf
 | p+1=>by
  rw[gG]
  split
  ·rename_i h
   exact Pq h (rE p) _
  ·exact rE p
theorem FQ {x:cF} {cv:Cv} {st:cD} {p c:Nat} (h:p<(aG x cv st p).length):xN (bL x cv st p c):=Pq h (rE p) c
structure ZL (K:PySem.W.Frag) (mg:Str->Option Value) (aQ aW:Addr):Prop where
 Js:mg "TooMany" = some (.ref aQ)
 TQ:mg "TooWide" = some (.ref aW)
 Gb:PySem.W.excIn K aQ Vq "ValueError.__new__" = true
 Ga:PySem.W.excIn K aW Vq "ValueError.__new__" = true
 Gq:PySem.W.exmOne K (.ref aQ) (.ref aQ)=some true
 WR:PySem.W.exmOne K (.ref aW) (.ref aW)=some true
variable {aQ aW:Addr}
def M3:Sp:=fun vs H Q _=>∃(v:V) (c:Cv),vs=[v]/\At H (yN c) v/\c≠[]/\c.length<=100/\∀H',aC H H'->Q (.bl (decide (bH c (c.map (·.1))>23))) H'
theorem my:aR ["curve"] ["curve"] (aH jC):=(by walk_at "c")
theorem vC (F:jk K "is_too_wide" "is_too_wide" jC f fd) (O:Co K mg) (bZ:Ct P w K mg base k "most_next" ["curve","spare"] uo) (cR:Ct P w K mg base k "bursts_of" ["curve"] pR):bM P w K mg base iH (k+1) f fd ["curve"] M3:=by
 refine F.ok my (by rintro vs H Q E ⟨v,c,rfl,_⟩; rfl) (fun cdv A outer s H vs Q E hr h=>?_)
 obtain⟨v,c,rfl,a1,hc,hl,q⟩:=h
 have ND:=my.nd
 refine⟨_,(aJ (aV (fY lO (pf bZ hr (aa (pv 0) (aa (pf cR hr (aa (pv 0) ak)) ak))) (FN O.zb) (bA _)))),?_⟩
 walk_at "rd"
 refine⟨v,c,rfl,a1,hl,fun p H1 s1 e1=>⟨v,c,p,c.map (·.1),rfl,a1.mono s1,e1,by rw[bR],hc,hl,fun H2 s2=>?_⟩⟩
 exact⟨_,_,rfl,rfl,q H2 (s1.trans s2)⟩
def BL:Sp:=fun vs H Q _=>∃(v u cv:V) (x:cF) (st:cD) (c:Cv),vs=[v,u,cv]/\At H (iD x) v/\At H (iJ st) u/\At H (yN c) cv/\Bm x/\fu st/\c.length<=100/\∀p v1 p2 H',aC H H'->At H' (iJ (dB x st)) v1->H' p2=some (.tup ((c.map (·.1)).map V.int))->H' p=some (.tup [v1,.ref p2,.non,.non])->Q (.ref p) H'
theorem mz:aR ["post","stand","curve"] ["post","stand","curve"] (aH jD):=(by walk_at "c")
theorem vD (F:jk K "first_entry" "first_entry" jD f fd) (jJ:Ct P w K mg base k "lean" ["post","stand"] uv) (cR:Ct P w K mg base k "bursts_of" ["curve"] pR):bM P w K mg base iH (k+1) f fd ["post","stand","curve"] BL:=by
 refine F.ok mz (by rintro vs H Q E ⟨v,u,cv,x,st,c,rfl,_⟩; rfl) (fun cdv A outer s H vs Q E hr h=>?_)
 obtain⟨v,u,cv,x,st,c,rfl,a1,a2,a3,hn,hs,hl,q⟩:=h
 have ND:=mz.nd
 refine⟨_,(aJ (aV (aY (aa (pf jJ hr (aa (pv 0) (aa (pv 1) ak))) (aa (pf cR hr (aa (pv 2) ak)) (aa dU (aa dU ak))))))),?_⟩
 walk_at "rd"
 refine Lean.of a1 a2 hn hs fun u1 H1 s1 b1=>⟨cv,c,rfl,a3.mono s1,hl,fun p2 H2 s2 e2=>⟨(by decide),fun p3 H3 f3 s3 e3=>?_⟩⟩
 exact q p3 u1 p2 H3 (s1.trans (s2.trans s3)) (b1.mono (s2.trans s3)) (s3 _ _ e2) e3
theorem jf {H:Hp} {e:En} {v:V} (h:At H (fM e) v):∃a v1 p2 v3 v4,v=.ref a/\H a=some (.tup [v1,.ref p2,v3,v4])/\At H (iJ e.st) v1/\H p2=some (.tup (e.sp.map V.int))/\(e.fr=none/\v3=.non/\v4=.non\/∃p c,e.fr=some (p,c)/\v3=.int (p:Nat)/\v4=.int c):=by
 obtain⟨st,sp,fr⟩:=e
 cases fr with
 | none=>
  obtain⟨a,xs,rfl,h1,k0⟩:=bB h
  obtain⟨v1,_,rfl,b1,k1⟩:=aj.aX k0
  obtain⟨v2,_,rfl,b2,k2⟩:=aj.aX k1
  obtain⟨p2,ys,rfl,g1,g2⟩:=bB b2
  cases cg g2
  have k2:aj H [.none,.none] _:=k2
  obtain⟨v3,_,rfl,b3,k3⟩:=aj.aX k2
  obtain⟨v4,_,rfl,b4,k4⟩:=aj.aX k3
  cases aj.lV k4
  unfold At at b3 b4
  subst b3 b4
  exact⟨a,v1,p2,_,_,rfl,h1,b1,g1,.inl ⟨rfl,rfl,rfl⟩⟩
 | some pc=>
  obtain⟨p,c⟩:=pc
  obtain⟨a,xs,rfl,h1,k0⟩:=bB h
  obtain⟨v1,_,rfl,b1,k1⟩:=aj.aX k0
  obtain⟨v2,_,rfl,b2,k2⟩:=aj.aX k1
  obtain⟨p2,ys,rfl,g1,g2⟩:=bB b2
  cases cg g2
  have k2:aj H [.int (p:Nat),.int c] _:=k2
  obtain⟨v3,_,rfl,b3,k3⟩:=aj.aX k2
  obtain⟨v4,_,rfl,b4,k4⟩:=aj.aX k3
  cases aj.lV k4
  unfold At at b3 b4
  subst b3 b4
  exact⟨a,v1,p2,_,_,rfl,h1,b1,g1,.inr ⟨p,c,rfl,rfl,rfl⟩⟩
def Hm:Sp:=fun vs H Q _=>∃(cv v:V) (c:Cv) (e:En),vs=[cv,v]/\At H (yN c) cv/\At H (fM e) v/\El c/\rP c e/\km c e<=100/\∀p H',H p=none->aC H H'->H' p=some (.lst ((List.range (km c e)).map fun(i:Nat)=>V.int i))->Q (.ref p) H'
theorem oh:aR ["curve","entry"] ["curve","entry"] (aH kJ):=(by walk_at "c")
theorem xm (F:jk K "comes_next" "comes_next" kJ f fd) (B:Bi mg) (bZ:Ct P w K mg base k "most_next" ["curve","spare"] uo):bM P w K mg base iH (k+1) f fd ["curve","entry"] Hm:=by
 refine F.ok oh (by rintro vs H Q E ⟨cv,v,c,e,rfl,_⟩; rfl) (fun cdv A outer s H vs Q E hr h=>?_)
 obtain⟨cv,v,c,e,rfl,a1,a2,hv,he,hm,q⟩:=h
 have ND:=oh.nd
 refine⟨_,(aJ (aV (pt (Lg hr.hd) B.list Jl (aa (pt (Lb) B.range Ef (aa (aZ bN (pf bZ hr (aa (pv 0) (aa (bz aU (pv 1) ao (fun _ _=>rfl)) ak))) ao) ak)) ak)))),?_⟩
 obtain⟨a,v1,p2,v3,v4,rfl,g1,g2,g3,g4⟩:=jf a2
 walk_at "rd"
 refine Ix.tup g1 (v:=.ref p2) rfl ⟨cv,c,p2,e.sp,rfl,a1,g3,he.sl,hv.ne,(by have:=hv.n; omega),fun H1 s1=>?_⟩
 have hm0:=Ac hv he.sl he.nn
 have hm':(bH c e.sp+1).toNat<=100:=hm
 refine⟨_,_,rfl,rfl,by omega,by omega,fun p3 H3 f3 s3 e3=>⟨p3,_,rfl,e3,by omega,by omega,by omega,fun l H4 f4 s4 e4=>?_⟩⟩
 have z:=s1.trans (s3.trans s4)
 exact q l H4 (aC.free (s1.trans s3) f4) z e4
def Hf:Sp:=fun vs H Q _=>∃(v cv u:V) (x:cF) (c:Cv) (e:En) (cm:Int),vs=[v,cv,u,.int cm]/\At H (iD x) v/\At H (yN c) cv/\At H (fM e) u/\kh x/\Bm x/\rP c e/\c.length<=100/\∀p v1 p2 H',aC H H'->At H' (iJ (Eh x e cm)) v1->H' p2=some (.tup ((dW c e.sp cm).map V.int))->H' p=some (.tup [v1,.ref p2,.int (Ei x e cm)])->Q (.ref p) H'
theorem ye:aR ["post","curve","entry","come","behind","done","away","change"] ["post","curve","entry","come"] (aH uI):=(by walk_at "c")
theorem Km (F:jk K "led_to" "led_to" uI f fd) (jJ:Ct P w K mg base k "lean" ["post","stand"] uv) (rN:Xc P w K mg base k "beat" ["post","stand","come","free"] 12 Fg) (dD:Ct P w K mg base k "spares_left" ["curve","spare","come"] ur):bM P w K mg base iH (k+1) f fd ["post","curve","entry","come"] Hf:=by
 refine F.ok ye (by rintro vs H Q E ⟨v,cv,u,x,c,e,cm,rfl,_⟩; rfl) (fun cdv A outer s H vs Q E hr h=>?_)
 obtain⟨v,cv,u,x,c,e,cm,rfl,a1,a2,a3,hx,hn,he,hl,q⟩:=h
 have ND:=ye.nd
 refine⟨_,(aq (dN (pfd rN hr (aa (pv 0) (aa (bz aU (pv 2) ao (fun _ _=>rfl)) (aa (pv 3) ak)))) (bJ (K:=K) (n:=4) rfl rfl (aD (aF (i:=4) ND rfl (by walk_at "o")) (aD (aF (i:=5) ND rfl (by walk_at "o")) (aD (aF (i:=6) ND rfl (by walk_at "o")) (aD (aF (i:=7) ND rfl (by walk_at "o")) bI)))))) (aJ (aV (aY (aa (pf jJ hr (aa (pv 0) (aa (pv 4) ak))) (aa (pf dD hr (aa (pv 1) (aa (bz aU (pv 2) ao (fun _ _=>rfl)) (aa (pv 3) ak)))) (aa (pv 6) ak))))))),?_⟩
 obtain⟨a,v1,p2,v3,v4,rfl,g1,g2,g3,g4⟩:=jf a3
 walk_at "rd"
 refine Ix.tup g1 (v:=v1) rfl ⟨v,v1,x,e.st,cm,12,rfl,a1,g2,hx,he.st,fun p5 u5 H5 s5 a5 e5=>⟨p5,_,rfl,cA.of e5,rfl,?_⟩⟩
 walk_at "rd"
 refine Lean.of (a1.mono s5) a5 hn (z_ hx he.st) fun u6 H6 s6 a6=>?_
 have Z9:=s5.trans s6
 refine Ix.tup (Z9 _ _ g1) (v:=.ref p2) rfl ⟨cv,c,p2,e.sp,cm,rfl,a2.mono Z9,Z9 _ _ g3,he.sl,hl,fun p7 H7 s7 e7=>⟨(by decide),fun p8 H8 f8 s8 e8=>?_⟩⟩
 exact q p8 u6 p7 H8 (Z9.trans (s7.trans s8)) (a6.mono (s7.trans s8)) (s8 _ _ e7) e8
def BR:Sp:=fun vs H Q _=>∃(b:Int) (v:V) (aw:Int) (st:cD),vs=[.int b,v,.int aw]/\At H (iJ st) v/\∀H',aC H H'->Q (.bl (decide (st.w>b) || decide (aw>0))) H'
theorem yh:aR ["bound","behind","away"] ["bound","behind","away"] (aH uM):=(by walk_at "c")
theorem Kq (F:jk K "breaks" "breaks" uM f fd):bM P w K mg base iH (k+1) f fd ["bound","behind","away"] BR:=by
 refine F.ok yh (by rintro vs H Q E ⟨b,v,aw,st,rfl,_⟩; rfl) (fun cdv A outer s H vs Q E hr h=>?_)
 obtain⟨b,v,aw,st,rfl,a1,q⟩:=h
 have ND:=yh.nd
 refine⟨_,(aJ (aV (Y4 (fY lO (bz aU (pv 1) ao (fun _ _=>rfl)) (pv 0) (bA _)) (Ob (fY lO (pv 2) ao (bA _)))))),?_⟩
 obtain⟨sa,sb,sc,rfl,g1,g2,g3⟩:=gA a1
 walk_at "rd"
 refine Ix.tup g1 (v:=.int st.w) rfl ⟨_,_,rfl,rfl,?_⟩
 have q1:Q (.bl (decide (b<st.w) || decide (0<aw))) H:=q H (aC.refl H)
 cases e1:decide (b<st.w) with
 | true=>rw[e1] at q1; rw[aM rfl]; exact q1
 | false=>rw[e1] at q1; rw[aK (by decide)]; exact q1
def M6 (C:Addr):Sp:=fun vs H Q E=>∃(l:Addr) (ys:List V) (lim:Int),vs=[.ref l,.int lim]/\H l=some (.lst ys)/\0<=lim/\lim<=1000/\((ys.length:Int)<lim->∀H',aC H H'->Q .non H')/\(lim<=(ys.length:Int)->∀H',aC H H'->E (.ref C) none H')
theorem ou:aR ["entries","limit"] ["entries","limit"] (aH kO):=(by walk_at "c")
theorem xn (F:jk K "check_room" "check_room" kO f fd) (B:Bi mg) (Z:ZL K mg aQ aW):bM P w K mg base (lR P w) (k+1) f fd ["entries","limit"] (M6 aQ):=by
 refine F.Xj ou (by rintro vs H Q E ⟨l,ys,lim,rfl,_⟩; rfl) (fun cdv A outer s H vs Q E K5 hr h=>?_)
 obtain⟨l,ys,lim,rfl,hl,h1,h2,q1,q2⟩:=h
 have ND:=ou.nd
 refine⟨_,(aJ (dG (bw U3 (pb (d7 (K:=K) rfl) B.len lG (aa (pv 0) ak)) (pv 1) (bA _)) (aJ (Dd ⟨Z.Js,Z.Gb⟩ K5 (aa (UL (nJ fX (nJ (UT (pv 1)) (nJ fX N7)))) ak))) bT)),?_⟩
 walk_at "rd"
 refine⟨l,ys,rfl,.inl (gW.of hl),⟨_,_,rfl,rfl,?_⟩⟩
 by_cases c1:lim<=(ys.length:Int)
 ·rw[aM (iC c1)]
  have hd:=Qm (n:=lim) (k:=4) (by decide) (by omega)
  have l1:(Str.ofString "more than ").length=10:=rfl
  have l2:(Str.ofString " entries").length=8:=rfl
  have l0:Str.empty.length=0:=rfl
  have e3:(Str.empty++Str.ofString "more than " ++ tx (dg lim)++Str.ofString " entries").length<=sizeLine:=by
   simp only[Str.length_append,qP,l0,l1,l2,sizeLine_eq]; omega
  refine⟨_,rfl,?_,_,Qi (by omega) (by omega),?_,_,rfl,?_,_,rfl,e3,e3,by decide,fun H' s'=>q2 c1 H' s'⟩
  ·simp only[Str.length_append,l0,l1,sizeLine_eq]; omega
  ·rw[qP,sizeLine_eq]; omega
  ·simp only[Str.length_append,qP,l0,l1,sizeLine_eq]; omega
 ·rw[aK (by simpa using c1)]
  exact q1 (by omega) H (aC.refl H)
theorem lH {H:Hp} {es:List En} {ys:List V} (h:aj H (es.map fM) ys) {p:Nat} (hp:p<es.length):∃y,ys[p]?=some y/\At H (fM (cC es p)) y:=by
 have hl:ys.length=es.length:=by rw[h.length,bR]
 have hy:ys[p]?=some (ys[p]'(by omega)):=eV (by omega)
 obtain⟨d,e1,e2⟩:=h.get hy
 rw[g8,(jw hp).2] at e1
 cases e1
 exact⟨_,hy,e2⟩
theorem DX (e:En):qm (fM e)=true:=by
 have h1:=pP e.st
 have h2:=m7 e.sp
 unfold fM frD
 cases e.fr <;> simp[qm,bF,h1,h2]
theorem rH (es:List En):bF (es.map fM)=true:=cu.mpr fun d hd=>by obtain⟨e,_,rfl⟩:=g_.mp hd; exact DX e
def FrV (fr:Option (Nat×Int)) (v3 v4:V):Prop:=fr=none/\v3=.non/\v4=.non\/∃p c,fr=some (p,c)/\v3=.int (p:Nat)/\v4=.int c
theorem rB {es:List En} (hq:∀(i q:Nat) (c:Int),i<es.length->(cC es i).fr=some (q,c)->q<i):∀(i f g:Nat),i<es.length->i<f->i<g->bU es f i=bU es g i:=by
 intro i
 induction i using Nat.strongRecOn with
 | _ i ih=>
  intro f g hi hf hg
  obtain⟨f',rfl⟩:∃f',f=f'+1:=⟨f-1,by omega⟩
  obtain⟨g',rfl⟩:∃g',g=g'+1:=⟨g-1,by omega⟩
  unfold bU
  cases e:(cC es i).fr with
  | none=>rfl
  | some pc=>
   obtain⟨q,c⟩:=pc
   have hlt:=hq i q c hi e
   dsimp only
   rw[ih q hlt f' g' (by omega) (by omega) (by omega)]
def uq:Sp:=fun vs H Q _=>∃(l:Addr) (ys:List V) (es:List En) (p:Nat),vs=[.ref l,.int p]/\H l=some (.lst ys)/\aj H (es.map fM) ys/\p<es.length/\es.length<=1000/\(∀(i q:Nat) (c:Int),i<es.length->(cC es i).fr=some (q,c)->q<i)/\∀r H',H r=none->aC H H'->H' r=some (.lst ((bU es es.length p).map V.int))->Q (.ref r) H'
theorem uz:aR ["entries","place","load","came_from","come"] ["entries","place"] (aH qU):=(by walk_at "c")
theorem FZ (F:jk K "load_to" "load_to" qU f fd):bM P w K mg base iH (k+1) f fd ["entries","place"] uq:=by
 refine F.ok uz (by rintro vs H Q E ⟨l,ys,es,p,rfl,_⟩; rfl) (fun cdv A outer s H vs Q E hr h=>?_)
 obtain⟨l,ys,es,p,rfl,hl,ha,hp,hn,hq,q⟩:=h
 have ND:=uz.nd
 refine⟨_,(aq (a_ (i:=2) ND rfl (by walk_at "o") (cX ak)) (aq (dN (dR gO (bz aU (pv 0) (pv 1) (fun _ _=>rfl)) (eX ao) fW) (bJ (K:=K) (n:=2) rfl rfl (aD (aF (i:=3) ND rfl (by walk_at "o")) (aD (aF (i:=4) ND rfl (by walk_at "o")) bI)))) (aq (Dc PassesOwn.never (bw qi (pv 4) dU (bA _)) (aq (nH (vo (K:=K) rfl PySem.F.plainAttrs_list PySem.F.slot_list_append PySem.F.type_list_append j0 (pv 2) (aa (pv 4) ak))) (aJ (dN (dR gO (bz aU (pv 0) (pv 3) (fun _ _=>rfl)) (eX ao) fW) (bJ (K:=K) (n:=2) rfl rfl (aD (aF (i:=3) ND rfl (by walk_at "o")) (aD (aF (i:=4) ND rfl (by walk_at "o")) bI))))))) (aJ (aV (RN (K:=K) rfl (pv 2) (eX (UJ Ml ao)))))))),?_⟩
 walk_at "rd"
 refine⟨e_ _,fun r H1 f1 s1 e1=>?_⟩
 obtain⟨y,y1,y2⟩:=lH ha hp
 obtain⟨ea,v1,p2,v3,v4,rfl,g1,_,_,g4⟩:=jf y2
 refine Ix.lst (s1 _ _ hl) (bx y1) ⟨ea,_,rfl,s1 _ _ g1,fun p3 H3 s3 e3=>?_⟩
 rw[qH (by decide)] at e3
 have e3:H3 p3=some (.tup [v3,v4]):=e3
 refine⟨p3,_,rfl,cA.of e3,rfl,?_⟩
 walk_at "rd"
 have rl:r≠l:=fun z=>by rw[z,hl] at f1; cases f1
 have fuel:=rB hq
 refine⟨fun m σ H'=>∃(i:Nat) (acc:List Int) (w3 w4:V),σ=[some (.ref l),some (.int p),some (.ref r),some w3,some w4]/\i<es.length/\m=i+(if(cC es i).fr=none then 0 else 1)/\FrV (cC es i).fr w3 w4/\bU es es.length p=bU es es.length i++acc.reverse/\acc.length+i<=es.length/\H' r=some (.lst (acc.map V.int))/\aC H H',⟨_,p,[],v3,v4,rfl,hp,rfl,g4,by simp,by simp; omega,s3 _ _ e1,s1.trans s3⟩,?_⟩
 rintro m σ H4 ⟨i,acc,w3,w4,rfl,hi,hm,hf,hpa,hal,e4,s4⟩
 walk_at "rd"
 refine⟨trivial,?_⟩
 rcases hf with⟨z1,rfl,rfl⟩ | ⟨q',c,z1,rfl,rfl⟩
 ·rw[aK (by decide)]
  have ep:bU es es.length i=[]:=by
   obtain⟨f',hf'⟩:∃f',es.length=f'+1:=⟨es.length-1,by omega⟩
   rw[hf']
   unfold bU
   rw[z1]
  rw[ep,Fq] at hpa
  unfold Ud
  walk_at "rd"
  refine⟨trivial,r,_,rfl,gW.of e4,fun p5 f5=>?_⟩
  refine q p5 _ (aC.free s4 f5) (s4.trans (aO f5 _)) ?_
  rw[az,hpa,List.map_reverse]
 ·rw[aM (by simp)]
  have hlt:=hq i q' c hi z1
  refine⟨_,fun σ' H' z=>z,.inl ⟨rfl,_,gW.of e4⟩,r,_,_,rfl,rfl,e4,by rw[bR]; exact bj (by omega),?_⟩
  have s5:aC H (upd H4 r (.lst (acc.map V.int++[V.int c]))):=s4.dw (by exact f1)
  have e5:upd H4 r (.lst (acc.map V.int++[V.int c])) r=some (.lst ((acc++[c]).map V.int)):=by rw[az,jm]; rfl
  generalize upd H4 r (.lst (acc.map V.int++[V.int c]))=H5 at s5 e5
  obtain⟨y',y1',X6⟩:=lH ha (show q'<es.length by omega)
  obtain⟨ea',v1',p2',v3',v4',rfl,g1',_,_,g4'⟩:=jf X6
  refine Ix.lst (s5 _ _ hl) (bx y1') ⟨ea',_,rfl,s5 _ _ g1',fun p6 H6 s6 e6=>?_⟩
  rw[qH (by decide)] at e6
  have e6:H6 p6=some (.tup [v3',v4']):=e6
  refine⟨p6,_,rfl,cA.of e6,rfl,?_⟩
  walk_at "rd"
  have ep:bU es es.length i=bU es es.length q'++[c]:=by
   obtain⟨f',hf'⟩:∃f',es.length=f'+1:=⟨es.length-1,by omega⟩
   rw[fuel q' es.length f' (by omega) (by omega) (by omega),hf']
   conv=>lhs; unfold bU
   rw[z1]
  refine⟨_,?_,q',acc++[c],v3',v4',rfl,by omega,rfl,g4',?_,by rw[gD]; simp; omega,s6 _ _ e5,s5.trans s6⟩
  ·have hm':m=i+1:=by rw[hm,z1]; rfl
   split <;> omega
  ·rw[hpa,ep,List.reverse_append,Cg]; rfl
variable {aQ aW:Addr}
theorem Nt.of {H:Hp} {l b:Addr} {xs zs:List V} {Q:VK} (h1:H l=some (.lst xs)) (h2:H b=some (.lst zs)) (hn:xs.length+zs.length<=sizeLine) (q:∀p H',H p=none->aC H H'->H' p=some (.lst (xs++zs))->Q (.ref p) H'):Nt (.ref l) (.ref b) H Q:=
 ⟨l,b,xs,zs,rfl,rfl,h1,h2,hn,fun p fp=>q p _ fp (aO fp _) az⟩
theorem Zj {xs ys:List V} (h:xs.length+ys.length<=1000):xs.length+ys.length<=sizeLine:=iz (bj h)
theorem Dh {es:List En} (hq:xN es):∀(f i:Nat),(bU es f i).length<=f
 | 0,_=>cW _
 | f+1,i=>by
  unfold bU
  split
  ·exact e_ _
  ·rw[gD]
   have:=Dh hq f
   rename_i q c _
   have:=this q
   simp
   omega
def Xw:Option Int->V
 | none=>.non
 | some b=>.int b
def Ve (H H':Hp) (es:List En) (w:V) (v:V):Prop:=∃p l ys,v=.ref p/\H' p=some (.tup [.ref l,w])/\H l=none/\H' l=some (.lst ys)/\aj H' (es.map fM) ys
def uh (CM CW:Addr):Sp:=fun vs H Q E=>∃(v u cv:V) (x:cF) (st:cD) (c:Cv) (bd:Option Int) (lim:Int),vs=[v,u,cv,Xw bd,.int lim]/\At H (iD x) v/\At H (iJ st) u/\At H (yN c) cv/\kh x/\Bm x/\fu st/\El c/\0<=lim/\lim<=900 /\
 (23<bH c (c.map (·.1))->∀H',aC H H'->E (.ref CW) none H') /\
 (bH c (c.map (·.1))<=23->∀n,eG x c st bd lim n->∀v' H',aC H H'->Ve H H' (aG x c st n) .non v'->Q v' H') /\
 (bH c (c.map (·.1))<=23->∀p cc,wO x c st bd lim p cc->∀v' r H',aC H H'->H r=none->H' r=some (.lst ((bU (bL x c st p cc) (bL x c st p cc).length p++[(cc:Int)]).map V.int))->Ve H H' (bL x c st p cc) (.ref r) v'->Q v' H') /\
 (bH c (c.map (·.1))<=23->∀p cc,wK x c st bd lim p cc->∀H',aC H H'->E (.ref CM) none H')
theorem xZ:aR ["post","stand","curve","bound","limit","entries","met","place","come","behind","spare","away"] ["post","stand","curve","bound","limit"] (aH uE):=(by walk_at "c")
theorem Kf (F:jk K "walked" "walked" uE f fd) (B:Bi mg) (O:Co K mg) (Z:ZL K mg aQ aW) (jK:Ct P w K mg base k "is_too_wide" ["curve"] M3) (jL:Ct P w K mg base k "first_entry" ["post","stand","curve"] BL) (lD:Ct P w K mg base k "comes_next" ["curve","entry"] Hm)
  (wC:Ct P w K mg base k "led_to" ["post","curve","entry","come"] Hf) (wH:Ct P w K mg base k "breaks" ["bound","behind","away"] BR) (lE:Lr P w K mg base k "check_room" ["entries","limit"] (M6 aQ)) (iU:Ct P w K mg base k "load_to" ["entries","place"] uq) :
  bM P w K mg base (lR P w) (k+1) f fd ["post","stand","curve","bound","limit"] (uh aQ aW):=by
 refine F.Xj xZ (by rintro vs H Q E ⟨v,u,cv,x,st,c,bd,lim,rfl,_⟩; rfl) (fun cdv A outer s H vs Q E K5 hr h=>?_)
 obtain⟨v,u,cv,x,st,c,bd,lim,rfl,a1,a2,a3,hx,hn,hs,hv,hl1,hl2,qW,qD,qB,qM⟩:=h
 have ND:=xZ.nd
 refine⟨_,(aq (dG (vd (pf jK hr (aa (pv 2) ak))) (aJ (Dd ⟨Z.TQ,Z.Ga⟩ K5 (aa (UL (nJ fX (nJ (UT (FN O.zb)) (nJ fX N7)))) ak))) bT) (aq (a_ (i:=5) ND rfl (by walk_at "o") (cX (aa (pf jL hr (aa (pv 0) (aa (pv 1) (aa (pv 2) ak)))) ak))) (aq (a_ (i:=6) ND rfl (by walk_at "o") (FP Ld (by rfl) B.set W4)) (aq (nH (HW hr.units (pv 6) (aa (dR gO (bz aU (pv 5) ao (fun _ _=>rfl)) fW (eX ao)) ak))) (aq (a_ (i:=7) ND rfl (by walk_at "o") ao) (aq (Dc PassesOwn.leaving (bw Dj (pv 7) (pb (d7 (K:=K) rfl) B.len lG (aa (pv 5) ak)) (bA _)) (aq (oW PassesOwn.leaving rfl (h_ (K:=K) rfl (pf lD hr (aa (pv 2) (aa (bz aU (pv 5) (pv 7) (fun _ _=>rfl)) ak)))) (aF (i:=8) ND rfl (by walk_at "o")) (aq (dN (pf wC hr (aa (pv 0) (aa (pv 2) (aa (bz aU (pv 5) (pv 7) (fun _ _=>rfl)) (aa (pv 8) ak))))) (bJ (K:=K) (n:=3) rfl rfl (aD (aF (i:=9) ND rfl (by walk_at "o")) (aD (aF (i:=10) ND rfl (by walk_at "o")) (aD (aF (i:=11) ND rfl (by walk_at "o")) bI))))) (aq (dG (PW.pt (u_ (bw qi (pv 3) dU (bA _)) (qe (vd (pf wH hr (aa (pv 3) (aa (pv 9) (aa (pv 11) ak)))))))) (aJ (aV (aY (aa (pv 5) (aa (aZ Om (pf iU hr (aa (pv 5) (aa (pv 7) ak))) (cX (aa (pv 8) ak))) ak))))) bT) (aJ (dG (bw (Kc hr.units) (aY (aa (pv 9) (aa (pv 10) ak))) (pv 6) (by with_unfolding_all rfl)) (aq (nH (Y0 lE hr (aa (pv 5) (aa (pv 4) ak)))) (aq (nH (HW hr.units (pv 6) (aa (aY (aa (pv 9) (aa (pv 10) ak))) ak))) (aJ (nH (vo (K:=K) rfl PySem.F.plainAttrs_list PySem.F.slot_list_append PySem.F.type_list_append j0 (pv 5) (aa (aY (aa (pv 9) (aa (pv 10) (aa (pv 7) (aa (pv 8) ak))))) ak)))))) bT))))) (aJ (vh (i:=7) ND rfl (by walk_at "o") ao Gh)))) (aJ (aV (aY (aa (pv 5) (aa dU ak))))))))))),?_⟩
 simp only[Nf]
 walk_at "rd"
 refine jP.of (fun σ' H'=>bH c (c.map (·.1))<=23/\aC H H'/\σ'=[some v,some u,some cv,some (Xw bd),some (.int lim),none,none,none,none,none,none,none]) ?_ ?_
 rotate_left 1
 ·intro N hNx
  walk_at "rd"
  refine⟨cv,c,rfl,a3,hv.ne,(by have:=hv.n; omega),fun H1 s1=>⟨_,rfl,?_⟩⟩
  by_cases c1:bH c (c.map (·.1))>23
  ·rw[aM (iC c1)]
   have hd:=Qm (n:=23) (k:=4) (by decide) (by decide)
   have l1:(Str.ofString "more than ").length=10:=rfl
   have l2:(Str.ofString " units may come in a beat").length=25:=rfl
   have l0:Str.empty.length=0:=rfl
   have e3:(Str.empty++Str.ofString "more than " ++ tx (dg 23)++Str.ofString " units may come in a beat").length<=sizeLine:=by
    simp only[Str.length_append,qP,l0,l1,l2,sizeLine_eq]; omega
   refine⟨_,rfl,?_,_,Qi (by decide) (by decide),?_,_,rfl,?_,_,rfl,e3,e3,by decide,fun H' s'=>qW (by omega) H' (s1.trans s')⟩
   ·simp only[Str.length_append,l0,l1,sizeLine_eq]; omega
   ·rw[qP,sizeLine_eq]; omega
   ·simp only[Str.length_append,qP,l0,l1,sizeLine_eq]; omega
  ·rw[aK (by simpa using c1)]
   exact hNx _ _ ⟨by omega,s1,rfl⟩
 rintro σ' H1 ⟨hW,s1,rfl⟩
 walk_at "rd"
 refine⟨v,u,cv,x,st,c,rfl,a1.mono s1,a2.mono s1,a3.mono s1,hn,hs,(by have:=hv.n; omega),fun pe v1 p2 H2 s2 b1 b2 b3=>⟨(by decide),fun l H3 f3 s3 e3=>⟨trivial,fun m H4 f4 s4 n4 hφ=>⟨⟨m,[],rfl,n4⟩,?_⟩⟩⟩⟩
 clear hφ
 have s34:=s3.trans s4
 have Uv:=s1.trans (s2.trans s34)
 refine Ix.lst (s4 _ _ e3) (v:=.ref pe) (bx (j:=0) rfl) ⟨pe,_,rfl,s34 _ _ b3,fun p5 H5 s5 e5=>?_⟩
 rw[rM (by decide)] at e5
 have e5:H5 p5=some (.tup [v1,.ref p2]):=e5
 have YC:=s34.trans s5
 have k5:jj H5 (ph (dB x st) (c.map (·.1))) (.ref p5):=⟨o_ _ _,At.tup e5 (aj.cons (b1.mono YC) (aj.cons (At.tup (YC _ _ b2) (bD _)) aj.nil))⟩
 refine⟨m,[],.ref p5,_,rfl,rfl,n4.same s5,by decide,k5,fun H6 p6=>?_⟩
 have fl:H l=none:=aC.free (s1.trans s2) f3
 have fm:H m=none:=aC.free (s1.trans (s2.trans s3)) f4
 have lm:l≠m:=fun z=>by rw[z] at e3; rw[e3] at f4; cases f4
 have s6:aC H H6:=fG.same p6 (Uv.trans s5) fm
 have e6:H6 l=some (.lst [.ref pe]):=fG.lst (n4.same s5) p6 _ _ (s5 _ _ (s4 _ _ e3))
 have a6:aj H6 ((aG x c st 0).map fM) [.ref pe]:=by
  refine aj.cons (fG.at (n4.same s5) p6 (DX _) (At.tup (YC _ _ b3) (aj.cons (b1.mono YC) (aj.cons (At.tup (YC _ _ b2) (bD _)) (aj.cons At.non (aj.cons At.non aj.nil)))))) aj.nil
 have n6:gm H6 m ((aG x c st 0).map En.key):=p6.2
 clear p6 n4 k5 e5 b1 b2 b3 e3
 obtain⟨Wh,hWh⟩:∃Wh:Nat->St->Hp->Prop,∀mm σ H',Wh mm σ H'↔(∃(p:Nat) (ys:List V) (o8 o9 Xp QM:Option V),σ=[some v,some u,some cv,some (Xw bd),some (.int lim),some (.ref l),some (.ref m),some (.int p),o8,o9,Xp,QM]/\mm=2000-p/\p<=(aG x c st p).length/\((aG x c st p).length=1\/((aG x c st p).length:Int)<=lim)/\y_ x c st bd p 0/\H' l=some (.lst ys)/\aj H' ((aG x c st p).map fM) ys/\gm H' m ((aG x c st p).map En.key)/\aC H H'):=⟨_,fun _ _ _=>Iff.rfl⟩
 refine⟨Wh,⟨_,(hWh _ _ _).mpr ⟨0,_,_,_,_,_,rfl,rfl,e_ _,.inl rfl,fun p' c' h=>by omega,e6,a6,n6,s6⟩⟩,?_⟩
 clear e6 a6 n6 s6
 intro mm σ H7 hw7
 obtain⟨p,ys,o8,o9,Xp,QM,rfl,hmm,hp,hlen,hnb,e7,a7,n7,s7⟩:=(hWh _ _ _).mp hw7
 walk_at "rd"
 refine⟨l,ys,rfl,.inl (gW.of e7),?_⟩
 have hyl:ys.length=(aG x c st p).length:=by rw[a7.length,bR]
 have hlim:(aG x c st p).length<=901:=by rcases hlen with z | z <;> omega
 refine⟨_,_,rfl,rfl,?_⟩
 by_cases c1:(p:Int)<ys.length
 ·rw[aM (iC c1)]
  have hp':p<(aG x c st p).length:=by omega
  refine⟨_,fun σ' H' z=>z,?_⟩
  rw[uf]
  walk_at "rd"
  obtain⟨y,y1,y2⟩:=lH a7 hp'
  have hE:=Ah hx hv hs p _ (jw hp').1
  have hcm:=Vc hE hW
  refine Ix.lst e7 (bx y1) ⟨cv,y,c,_,rfl,a3.mono s7,y2,hv,hE,by omega,fun lc H8 f8 s8 e8=>?_⟩
  have e8l:=s8 _ _ e7
  have lcl:lc≠l:=fun z=>by rw[z,e7] at f8; cases f8
  have flc:H lc=none:=aC.free s7 f8
  obtain⟨Pv,hPv⟩:∃Pv:Nat->St->Hp->Prop,∀i σ H',Pv i σ H'↔(∃(zs:List V) (o8 o9 Xp QM:Option V),σ=[some v,some u,some cv,some (Xw bd),some (.int lim),some (.ref l),some (.ref m),some (.int p),o8,o9,Xp,QM]/\((bL x c st p i).length=1\/((bL x c st p i).length:Int)<=lim)/\y_ x c st bd p i/\H' l=some (.lst zs)/\aj H' ((bL x c st p i).map fM) zs/\gm H' m ((bL x c st p i).map En.key)/\H' lc=some (.lst ((List.range (km c (cC (aG x c st p) p))).map fun i:Nat=>V.int i))/\aC H H'):=⟨_,fun _ _ _=>Iff.rfl⟩
  refine LK.of e8 Pv ((hPv _ _ _).mpr ⟨_,_,_,_,_,rfl,hlen,hnb,e8l,a7.mono s8,n7.same s8,e8,s7.trans s8⟩) (fun i σ H' _ hh=>by obtain⟨_,_,_,_,_,_,_,_,_,_,_,z,_⟩:=(hPv _ _ _).mp hh; exact z) ?_ ?_
  ·intro i w σ H9 hw hw9
   obtain⟨zs,o8,o9,Xp,QM,rfl,hl9,hb9,e9,a9,n9,c9,s9⟩:=(hPv _ _ _).mp hw9
   have hi:i<km c (cC (aG x c st p) p):=by
    have:=(fK.mp hw).1
    simpa using this
   have ew:w=.int (i:Nat):=by
    rw[g8,List.getElem?_range hi] at hw
    exact(Option.some.inj hw).symm
   subst ew
   have hlz:zs.length=(bL x c st p i).length:=by rw[a9.length,bR]
   have pp:p<(bL x c st p i).length:=jV hp' nO
   have aen:(bL x c st p i).length<=901:=by rcases hl9 with z | z <;> omega
   obtain⟨y',y1',X6⟩:=lH a9 pp
   rw[Tu hp'] at X6
   walk_at "rd"
   refine Ix.lst e9 (bx y1') ⟨v,cv,y',x,c,_,i,rfl,a1.mono s9,a3.mono s9,X6,hx,hn,hE,(by have:=hv.n; omega),fun pt v1 p2 Bj rY b1 b2 b3=>⟨pt,_,rfl,cA.of b3,rfl,?_⟩⟩
   walk_at "rd"
   have hi':=hi
   generalize WD:cC (aG x c st p) p=e at hE hcm e8 c9 hi y2 X6 b1 b2 b3
   have aed:=s9.trans rY
   refine jP.of (fun σ' H'=>Bb x bd e i=false/\aC Bj H'/\σ'=[some v,some u,some cv,some (Xw bd),some (.int lim),some (.ref l),some (.ref m),some (.int p),some (.int i),some v1,some (.ref p2),some (.int (Ei x e i))]) ?_ ?_
   rotate_left 1
   ·intro N hNx
    walk_at "rd"
    refine⟨trivial,?_⟩
    cases bd with
    | none=>
     rw[aK (by decide)]
     exact hNx _ _ ⟨rfl,aC.refl _,rfl⟩
    | some b=>
     rw[aM (by simp[Xw])]
     refine⟨b,v1,_,_,rfl,b1,fun Lp Eo=>⟨_,rfl,?_⟩⟩
     have eb:(decide ((Eh x e i).w>b) || decide (Ei x e i>0))=Bb x (some b) e i:=rfl
     rw[eb]
     cases Va:Bb x (some b) e i with
     | false=>
      rw[aK (by decide)]
      exact hNx _ _ ⟨Va,Eo,rfl⟩
     | true=>
      rw[aM rfl]
      have Mg:=rY.trans Eo
      refine⟨l,zs,_,p,rfl,Mg _ _ e9,a9.mono Mg,pp,by omega,FQ hp',fun r H12 f12 s12 WW=>⟨(by decide),fun p13 Vk Zy uN Tg=>?_⟩⟩
      have hpl:=Dh (FQ (x:=x) (cv:=c) (st:=st) (c:=i) hp') (bL x c st p i).length p
      refine Nt.of (uN _ _ WW) Tg (Zj (by rw[bR]; show _+1<=1000; omega)) fun p14 XH f14 JR Tf=>⟨(by decide),fun RT Vj f15 Xi Td=>?_⟩
      have Mf:=Mg.trans s12
      have X5:=Mf.trans uN
      have z15:=X5.trans (JR.trans Xi)
      refine qB hW p i ⟨hp',hi',hb9,by rw[WD]; exact Va,hl9⟩ _ p14 Vj (s9.trans z15) (aC.free (s9.trans X5) f14) ?_ ⟨RT,l,zs,rfl,Td,fl,z15 _ _ e9,a9.mono z15⟩
      rw[jm]
      exact Xi _ _ Tf
   rintro σ' Lp ⟨Va,Eo,rfl⟩
   walk_at "rd"
   have hb':y_ x c st bd p (i+1):=fun p' c' h1 h2 h3=>by
    by_cases z:p'=p/\c'=i
    ·obtain⟨rfl,rfl⟩:=z
     rw[WD]; exact Va
    ·exact hb9 p' c' (by omega) h2 h3
   refine⟨(by decide),fun p12 H12 f12 s12 WW=>?_⟩
   have Mf:=rY.trans (Eo.trans s12)
   have Mg:=Eo.trans s12
   have k12:jj H12 (oX x c e p i).key (.ref p12):=⟨o_ _ _,At.tup WW (aj.cons (b1.mono Mg) (aj.cons (At.tup (Mg _ _ b2) (bD _)) aj.nil))⟩
   refine⟨m,_,_,rfl,n9.same Mf,k12,?_⟩
   by_cases hk:(oX x c e p i).key∈(bL x c st p i).map En.key
   ·rw[iC hk,aK (by decide)]
    have ep:bL x c st p (i+1)=bL x c st p i:=by rw[i_,WD,aM hk]
    refine(hPv _ _ _).mpr ?_
    rw[ep]
    exact⟨zs,_,_,_,_,rfl,hl9,hb',Mf _ _ e9,a9.mono Mf,n9.same Mf,(by rw[WD]; exact Mf _ _ c9),s9.trans Mf⟩
   ·rw[fH hk,aM (by decide)]
    have ep:bL x c st p (i+1)=bL x c st p i++[oX x c e p i]:=by rw[i_,WD,aK hk]
    refine⟨l,zs,lim,rfl,Mf _ _ e9,hl1,by omega,fun hroom Vk uN=>?_,fun hroom Vk uN XH JR=>?_⟩
    ·have X5:=Mf.trans uN
     have n13:=n9.same X5
     refine⟨⟨m,_,rfl,n13⟩,(by decide),fun p14 XH f14 JR Tf=>?_⟩
     have X4:=X5.trans JR
     have QW:=Mg.trans (uN.trans JR)
     have n14:=n9.same X4
     have k14:jj XH (oX x c e p i).key (.ref p14):=⟨o_ _ _,At.tup Tf (aj.cons (b1.mono QW) (aj.cons (At.tup (QW _ _ b2) (bD _)) aj.nil))⟩
     refine⟨m,_,_,_,rfl,rfl,n14,by rw[bR]; omega,k14,fun Vj RT=>?_⟩
     have Td:=fG.lst n14 RT _ _ (X4 _ _ e9)
     have c15:=fG.lst n14 RT _ _ (X4 _ _ c9)
     have a15:aj Vj ((bL x c st p i).map fM) zs:=aj.tupS (fG.tup n14 RT) _ _ (rH _) (a9.mono X4)
     have b15:At Vj (iJ (Eh x e i)) v1:=fG.at n14 RT (pP _) (b1.mono QW)
     have d15:=fG.tup n14 RT _ _ (QW _ _ b2)
     have Xi:aC H Vj:=fG.same RT (s9.trans X4) fm
     have n15:=RT.2
     refine⟨.inl ⟨rfl,_,gW.of Td⟩,(by decide),fun p16 H16 f16 tU WT=>⟨l,zs,_,rfl,rfl,tU _ _ Td,by rw[hlz]; exact bj (by omega),?_⟩⟩
     have ZD:=tU _ _ Td
     have tk:∀b xs,H16 b=some (.tup xs)->upd H16 l (.lst (zs++[.ref p16])) b=some (.tup xs):=fun b xs hb=>by
      rw[aL (fun z=>by rw[z,ZD] at hb; cases hb)]; exact hb
     refine(hPv _ _ _).mpr ⟨zs++[.ref p16],_,_,_,_,rfl,.inr ?_,hb',az,?_,?_,?_,(Xi.trans tU).dw fl⟩
     ·rw[ep,gD]
      show((_+1:Nat):Int)<=lim
      omega
     ·rw[ep,jm]
      refine aj.tupS tk _ _ (by rw[<- List.map_singleton,<- jm]; exact rH _) ((a15.mono tU).append (aj.cons ?_ aj.nil))
      exact At.tup WT (aj.cons (b15.mono tU) (aj.cons (At.tup (tU _ _ d15) (bD _)) (aj.cons (At.int _) (aj.cons (At.int _) aj.nil))))
     ·rw[ep,jm]
      exact(n15.same tU).aaH ZD
     ·rw[aL lcl,WD]; exact tU _ _ c15
    ·exact qM hW p i ⟨hp',hi',hb',by rw[WD]; exact hk,by omega⟩ XH (s9.trans (Mf.trans (JR uN)))
  ·intro σ H9 hw9
   obtain⟨zs,o8,o9,Xp,QM,rfl,hl9,hb9,e9,a9,n9,c9,s9⟩:=(hPv _ _ _).mp hw9
   rw[bR,Hv] at hl9 hb9 a9 n9
   rw[<- mY hp'] at hl9 a9 n9
   walk_at "rd"
   refine⟨_,rfl,_,_,rfl,rfl,_,?_,(hWh _ _ _).mpr ⟨p+1,zs,_,_,_,_,rfl,rfl,?_,hl9,fun p' c' h1 h2 h3=>?_,e9,a9,n9,s9⟩⟩
   ·omega
   ·have:=mZ (x:=x) (cv:=c) (st:=st) (show p<=p+1 by omega); omega
   ·by_cases z:p'=p
    ·subst z; exact hb9 _ c' (.inr ⟨rfl,h3⟩) h2 h3
    ·exact hb9 p' c' (.inl (by omega)) h2 h3
 ·rw[aK (by simpa using c1)]
  refine⟨(by decide),fun p8 H8 f8 s8 e8=>?_⟩
  have ep:(aG x c st p).length=p:=by omega
  refine qD hW p ⟨ep,hnb,by rcases hlen with z | z <;> omega⟩ _ H8 (s7.trans s8) ⟨p8,l,ys,rfl,e8,fl,s8 _ _ e7,a7.mono s8⟩
variable {aQ aW:Addr}
def Hg (CM CW:Addr):Sp:=fun vs H Q E=>∃(v u cv:V) (x:cF) (st:cD) (c:Cv) (lim:Int),vs=[v,u,cv,.int lim]/\At H (iD x) v/\At H (iJ st) u/\At H (yN c) cv/\kh x/\Bm x/\fu st/\El c/\0<=lim/\lim<=900 /\
 (23<bH c (c.map (·.1))->∀H',aC H H'->E (.ref CW) none H') /\
 (bH c (c.map (·.1))<=23->∀n,eG x c st none lim n->∀l ys H',aC H H'->H l=none->H' l=some (.lst ys)->aj H' ((aG x c st n).map fM) ys->Q (.ref l) H') /\
 (bH c (c.map (·.1))<=23->∀p cc,wK x c st none lim p cc->∀H',aC H H'->E (.ref CM) none H')
theorem Ng:aR ["post","stand","curve","limit"] ["post","stand","curve","limit"] (aH Nj):=(by walk_at "c")
theorem Wc {T:Addr} {tk:Tok} (F:tM K "led" "led" Nj f fd T 300 tk) (j9:Lr P w K mg base k "walked" ["post","stand","curve","bound","limit"] (uh aQ aW)) :
  bM P w K mg base (lR P w) (k+1) f fd ["post","stand","curve","limit"] (Hg aQ aW):=by
 refine F.Xj Ng (by rintro vs H Q E ⟨v,u,cv,x,st,c,lim,rfl,_⟩; rfl) (fun cdv A outer s H vs Q E K5 hr h=>?_)
 obtain⟨v,u,cv,x,st,c,lim,rfl,a1,a2,a3,hx,hn,hs,hv,hl1,hl2,qW,qD,qM⟩:=h
 have ND:=Ng.nd
 refine⟨_,(aJ (aV (bz aU (Y0 j9 hr (aa (pv 0) (aa (pv 1) (aa (pv 2) (aa dU (aa (pv 3) ak)))))) ao (fun _ _=>rfl)))),?_⟩
 walk_at "rd"
 refine⟨v,u,cv,x,st,c,none,lim,rfl,a1,a2,a3,hx,hn,hs,hv,hl1,hl2,fun h H' s' H3 s3=>qW h H3 (s3 s'),fun h n D v' H' s' ⟨p,l,ys,e1,e2,e3,e4,e5⟩=>?_,fun h p cc Bk=>?_,fun h p cc M H' s' H3 s3=>qM h p cc M H3 (s3 s')⟩
 ·subst e1
  exact Ix.tup e2 (v:=.ref l) rfl (qD h n D l ys H' s' e3 e4 e5)
 ·exact absurd Bk.hk (by show ¬false=true; decide)
theorem NP (x:cF):qm (iD x)=true:=by
 have h:bF (x.eU.map oA)=true:=cu.mpr fun d hd=>by obtain⟨z,_,rfl⟩:=g_.mp hd; exact BZ z
 unfold iD N6 zK
 simp only[qm,bF,h,yp,Bool.true_and]
def Hc:Sp:=fun vs H Q _=>∃(a:Addr) (n:Nat),vs=[.ref a]/\Tp H a n/\n<=100000000/\∀p x H',PsT x->At (hid a H') (iD x) (.ref p)->Tp H' a (n+400)->SX a H H'->Q (.ref p) H'
theorem lM:aR ["_law_tape_here","_law_least","_law_rules","_law_hands","_law_rests","_law_late","_law_every","_law_k"] ["_law_tape_here"] (aH iW):=(by walk_at "c")
theorem sY (F:jk K "_law_small_post" "_law_small_post" iW f fd) (B:Bi mg) (bf:Ct P w K mg base k "_law_draw" ["_law_tape_here","_law_many"] lX) (Tq:Ct P w K mg base k "_law_row" ["_law_tape_here"] Fe) :
  bM P w K mg base iH (k+1) f fd ["_law_tape_here"] Hc:=by
 refine F.ok lM (by rintro vs H Q E ⟨a,n,rfl,_⟩; rfl) (fun cdv A outer s H vs Q E hr h=>?_)
 obtain⟨a,n,rfl,tp,hn,q⟩:=h
 have ND:=lM.nd
 refine⟨_,(aq (vg (i:=1) (j:=2) rfl ND rfl rfl (by decide) rfl rfl (aa (pf bf hr (aa (pv 0) (aa ao ak))) (aa (cX ak) ak)) (by rfl)) (aq (a_ (i:=3) ND rfl (by walk_at "o") (aY (aa (pv 1) (aa (aZ bN (aZ bN (pv 1) ao) (pf bf hr (aa (pv 0) (aa ao ak)))) ak)))) (aq (a_ (i:=4) ND rfl (by walk_at "o") (bz aU (cX (aa (aY (aa ao (aa ao ak))) (aa (aY (aa ao (aa ao ak))) (aa (aY (aa ao (aa ao ak))) (aa (aY (aa ao (aa ao ak))) ak))))) (pf bf hr (aa (pv 0) (aa ao ak))) (fun _ _=>rfl))) (aq (vg (i:=5) (j:=6) rfl ND rfl rfl (by decide) rfl rfl (aa (bz aU (cX (aa ao (aa ao (aa ao (aa ao ak))))) (pf bf hr (aa (pv 0) (aa ao ak))) (fun _ _=>rfl)) (aa (bz aU (cX (aa ao (aa ao (aa ao (aa ao ak))))) (pf bf hr (aa (pv 0) (aa ao ak))) (fun _ _=>rfl)) ak)) (by rfl)) (aq (oW PassesOwn.never rfl (fB (by rfl) B.range (aa (pf bf hr (aa (pv 0) (aa ao ak))) ak)) (aF (i:=7) ND rfl (by walk_at "o")) (aJ (nH (vo (K:=K) rfl PySem.F.plainAttrs_list PySem.F.slot_list_append PySem.F.type_list_append j0 (pv 2) (aa (pt (cz) B.tuple cT (aa (gP (N':=["_law_j","_law_tape_here"]) (js:=[0]) rfl (fB (by rfl) B.range (aa (aZ bN ao (pf bf hr (aa (pv 0) (aa ao ak)))) ak)) tO.mk1 rfl (by decide) rfl (fun fp s' H'=>(pf Tq hr (aa (pv 1) ak)))) ak)) ak))))) (aJ (aV (aY (aa (aZ bN ao (pf bf hr (aa (pv 0) (aa ao ak)))) (aa (aZ bN ao (pf bf hr (aa (pv 0) (aa ao ak)))) (aa (pv 3) (aa (pv 5) (aa (pv 6) (aa (pv 4) (aa (pt (cz) B.tuple cT (aa (pv 2) ak)) ak))))))))))))))),?_⟩
 walk_at "rd"
 refine fP.of tp (by omega) (by decide) (by decide) fun lo H1 l1 u1 t1 s1=>⟨e_ _,fun p H6 f6 s6 e6'=>⟨_,_,rfl,?_⟩⟩
 have pa:p≠a:=t1.ne f6
 have t6:=t1.same s6
 try walk_at "rd"
 refine fP.of t6 (by omega) (by decide) (by decide) fun y8 H8 l8 u8 t8 s8=>⟨_,_,rfl,rfl,(by decide),fun p9 H9 f9 s9 e9=>?_⟩
 have n9:=t8.ne f9
 have t9:=t8.same s9
 refine⟨(by decide),fun q1 G1 g1 r1 d1=>⟨(by decide),fun q2 G2 g2 r2 d2=>⟨(by decide),fun q3 G3 g3 r3 d3=>⟨(by decide),fun q4 G4 g4 r4 d4=>⟨(by decide),fun q5 G5 g5 r5 d5=>?_⟩⟩⟩⟩⟩
 have m1:=t9.ne g1
 have m2:=(t9.same r1).ne g2
 have m3:=((t9.same r1).same r2).ne g3
 have m4:=(((t9.same r1).same r2).same r3).ne g4
 have m5:=((((t9.same r1).same r2).same r3).same r4).ne g5
 have r15:=r1.trans (r2.trans (r3.trans (r4.trans r5)))
 have hp9:H9 p=some (.lst []):=(s8.trans (SX.of s9)).get pa e6'
 refine fP.of (t9.same r15) (by omega) (by decide) (by decide) fun y10 Bj l10 u10 Yp rY=>?_
 have pk:∃(qq:Addr) (u d:Int),GR [V.ref q1,V.ref q2,V.ref q3,V.ref q4] y10=some (.ref qq)/\qq≠a/\Bj qq=some (.tup [.int u,.int d])/\(0<=u/\u<=9)/\(0<=d/\d<=9):=by
  have hy:y10=0\/y10=1\/y10=2\/y10=3:=by omega
  rcases hy with rfl | rfl | rfl | rfl
  ·exact⟨q1,0,0,rfl,m1,rY.get m1 ((r2.trans (r3.trans (r4.trans r5))) _ _ d1),by decide,by decide⟩
  ·exact⟨q2,1,0,rfl,m2,rY.get m2 ((r3.trans (r4.trans r5)) _ _ d2),by decide,by decide⟩
  ·exact⟨q3,0,1,rfl,m3,rY.get m3 ((r4.trans r5) _ _ d3),by decide,by decide⟩
  ·exact⟨q4,2,1,rfl,m4,rY.get m4 (r5 _ _ d4),by decide,by decide⟩
 obtain⟨qq,ru,rd,hq1,hq2,hq3,hq4,hq5⟩:=pk
 have mq:qq≠p:=fun z=>by
  rw[z,((SX.of r15).trans rY).get pa hp9] at hq3
  cases hq3
 have m9:p9≠p:=fun z=>by rw[z] at e9; rw[e9] at hp9; cases hp9
 refine Ix.lst (rY.get m5 d5) hq1 ?_
 refine⟨(by decide),fun p11 Lp f11 Eo ZF=>fP.of (Yp.same Eo) (by omega) (by decide) (by decide) fun y12 H12 l12 u12 t12 s12=>?_⟩
 have n11:=Yp.ne f11
 obtain⟨la,hla,ela⟩:=iM (ts:=[0,1,0,2]) l12 u12
 have hla':0<=la/\la<=4:=by
  simp only[b8,qd,or_false] at hla
  rcases hla with rfl | rfl | rfl | rfl <;> decide
 refine Ix.lst (s12.get n11 ZF) ela ?_
 refine⟨(by decide),fun p13 Vk Zy uN Tg=>fP.of (t12.same uN) (by omega) (by decide) (by decide) fun y14 XH l14 u14 t14 Uv=>?_⟩
 have n13:=t12.ne Zy
 obtain⟨ev,hev,eev⟩:=iM (ts:=[1,2,1,3]) l14 u14
 have abx:1<=ev/\ev<=6:=by
  simp only[b8,qd,or_false] at hev
  rcases hev with rfl | rfl | rfl | rfl <;> decide
 refine Ix.lst (Uv.get n13 Tg) eev ⟨_,_,rfl,?_⟩
 try walk_at "rd"
 show Bu _ _ _ _ _ _
 rw[MF]
 walk_at "rd"
 refine fP.of t14 (by omega) (by decide) (by decide) fun m H20 l20 u20 t20 s20=>?_
 have z10:SX a Bj H20:=(SX.of Eo).trans (s12.trans ((SX.of uN).trans (Uv.trans s20)))
 have z9:SX a H9 H20:=(SX.of r15).trans (rY.trans z10)
 have z6:SX a H6 H20:=s8.trans ((SX.of s9).trans z9)
 have xx:SX a H H6:=s1.trans (SX.of s6)
 have fp:H p=none:=by
  cases e:H p with
  | none=>rfl
  | some o=>exact absurd (s1.get pa e) (by rw[f6]; simp)
 refine FK.of (n:=m.toNat) (by omega) (by omega) (fun i σ H'=>∃(eU:List (List fZ)) (ys:List V) (o3:Option V),σ=[some (.ref a),some (.int lo),some (.ref p),some (.ref p9),some (.ref qq),some (.int la),some (.int ev),o3]/\eU.length=i/\ys.length=i/\(∀rs∈eU,ZQ rs/\∀r∈rs,r.n<=1000000000000)/\H' p=some (.lst ys)/\aj (hid p (hid a H')) (eU.map oA) ys/\Tp H' a (n+20+60*i)/\SX a H H'/\H' p9=some (.tup [.int lo,.int (lo+1+y8)])/\H' qq=some (.tup [.int ru,.int rd]))
  ⟨[],[],_,rfl,rfl,rfl,fun d h=>by simp at h,z6.get pa e6',aj.nil,t20.mono (by omega),xx.trans z6,z9.get n9 e9,z10.get hq2 hq3⟩ ?_ ?_
 ·rintro i σ H3 hi ⟨eU,ys,o3,rfl,ld,ly,od,h3,a3,t3,s3,z8,Mg⟩
  walk_at "rd"
  refine⟨.inl ⟨rfl,_,gW.of h3⟩,?_⟩
  rw[iI]
  walk_at "rd"
  refine fP.of t3 (by omega) (by decide) (by decide) fun r H4 l4 u4 t4 s4=>?_
  have h4:=s4.get pa h3
  walk_at "rd"
  refine CK.of (n:=(1+r).toNat) (by omega) (by omega) fun acc hacc=>?_
  have ca:acc≠a:=t4.ne hacc
  have cp:acc≠p:=fun z=>by subst z; rw[hacc] at h4; cases h4
  refine⟨fun j zs H'=>∃es:List fZ,es.length=j/\zs.length=j/\(∀d∈es,TY d/\d.n<=1000000000000)/\aj (hid acc (hid a H')) (es.map p_) zs/\H' acc=some (.lst zs)/\Tp H' a (n+20+60*i+1+12*j)/\SX a H4 H',?_,?_,?_⟩
  ·exact⟨[],rfl,rfl,fun d h=>by simp at h,aj.nil,az,t4.dw ca,(SX.refl a H4).dw hacc ca⟩
  ·rintro j zs H5 hj ⟨es,le,lz,oe,a5,c5,t5,s5⟩
   show rQ _ _ _ _ [some _,some (.ref a)] H5 _
   walk_at "rd"
   refine acf.of t5 (by omega) fun v d H6 rk a6 t6 s6=>?_
   have c6:=s6.get ca c5
   have c6':hid a H6 acc=some (.lst zs):=by rw[bW ca]; exact c6
   refine⟨c6,(by rw[lz]; exact bj (by omega)),es++[d],by rw[gD,le]; rfl,by rw[gD,lz]; rfl,fun x hx=>?_,?_,az,?_,?_⟩
   ·rcases oV.mp hx with z | z
    ·exact oe x z
    ·rw[fj.mp z]; exact rk
   ·rw[cU ca,iG,jm]
    exact(a5.mono (aC.hid s6)).append (aj.cons (At.tE c6' _ v (Rm d) a6) aj.nil)
   ·exact(t6.dw ca).mono (by omega)
   ·exact(s5.trans s6).dw hacc ca
  ·rintro zs H6 ⟨es,le,lz,oe,a6,c6,t6,s6⟩
   have h6:=s6.get pa h4
   refine⟨acc,zs,rfl,c6,fun l hl=>?_⟩
   have la:l≠a:=t6.ne hl
   have lp:l≠p:=fun z=>by subst z; rw[hl] at h6; cases h6
   refine⟨p,ys,_,rfl,rfl,by rw[aL (Ne.symm lp)]; exact h6,by rw[ly]; exact bj (by omega),?_⟩
   have A1:At (hid a (upd H6 l (.tup zs))) (oA es) (.ref l):=by
    rw[cU la]
    have fr:hid a H6 l=none:=by rw[bW la]; exact hl
    exact At.tup az ((a6.mono gU).mono (aO fr _))
   have h7:hid a (upd H6 l (.tup zs)) p=some (.lst ys):=by rw[bW pa,aL (Ne.symm lp)]; exact h6
   have Rh:SX a H3 (upd H6 l (.tup zs)):=(s4.trans s6).trans (SX.of (aO hl _))
   refine⟨eU++[es],ys++[.ref l],_,rfl,by rw[gD,ld]; rfl,by rw[gD,ly]; rfl,fun x hx=>?_,az,?_,?_,?_,?_,?_⟩
   ·rcases oV.mp hx with z | z
    ·exact od x z
    ·rw[fj.mp z]; exact⟨⟨by omega,by omega,fun r hr=>(oe r hr).1⟩,fun r hr=>(oe r hr).2⟩
   ·rw[cU pa,iG,jm]
    exact(a3.mono (aC.hid Rh)).append (aj.cons (At.tE h7 _ _ (BZ es) A1) aj.nil)
   ·exact((t6.dw la).dw pa).mono (by omega)
   ·exact(s3.trans Rh).dw fp pa
   ·rw[aL m9]; exact Rh.get n9 z8
   ·rw[aL mq]; exact Rh.get hq2 Mg
 ·rintro σ H3 ⟨eU,ys,o3,rfl,ld,ly,od,h3,a3,t3,s3,z8,Mg⟩
  walk_at "rd"
  refine fP.of t3 (by omega) (by decide) (by decide) fun y1 G1 l1' u1' t1' Z_=>⟨_,_,rfl,rfl,fP.of t1' (by omega) (by decide) (by decide) fun y2 G2 l2 u2 t2 s2=>⟨_,_,rfl,rfl,?_⟩⟩
  have x32:=Z_.trans s2
  have h2:=x32.get pa h3
  have a2:aj (hid p (hid a G2)) (eU.map oA) ys:=a3.mono (aC.hid x32)
  have z8':=x32.get n9 z8
  have aaA:=x32.get hq2 Mg
  refine⟨p,ys,rfl,h2,fun l hl=>?_⟩
  have U7:l≠a:=t2.ne hl
  have A1:At (hid a (upd G2 l (.tup ys))) (zK eU) (.ref l):=by
   rw[cU U7]
   have fr:hid a G2 l=none:=by rw[bW U7]; exact hl
   exact At.tup az ((a2.mono gU).mono (aO fr _))
  have s4:=aO hl (HO.tup ys)
  have t4:=t2.dw (o:=.tup ys) U7
  generalize upd G2 l (.tup ys)=H4 at A1 s4 t4 ⊢
  refine⟨(by decide),fun p5 H5 f5 s5 e5=>?_⟩
  have n5:=t4.ne f5
  have z45:=s4.trans s5
  obtain⟨U7,rfl⟩:∃U7:Nat,la=(U7:Int):=⟨la.toNat,by omega⟩
  refine q p5 ⟨1+y1,3+y2,lo,lo+1+y8,U7,ev,ru,rd,eU⟩ H5 ⟨⟨by show 1<=1+y1/\1+y1<=1000000000000000000; omega,by show 0<=3+y2/\3+y2<=1000000000000; omega,by show 0<=lo/\lo<=lo+1+y8; omega,by show lo+1+y8<=12; omega,by show U7<=4; omega,abx,hq4,hq5,by show eU.length<=3; omega,fun rs hrs=>(od rs hrs).1⟩,by show 1+y1<=1000000; omega,fun rs hrs=>(od rs hrs).2⟩ ?_ ((t4.same s5).mono (by omega)) (s3.trans (x32.trans (SX.of z45)))
  exact At.tup (by rw[bW n5]; exact e5) (aj.cons (At.int _) (aj.cons (At.int _) (aj.cons (At.tup (by rw[bW n9]; exact z45 _ _ z8') (bD [lo,lo+1+y8])) (aj.cons (At.int _) (aj.cons (At.int _) (aj.cons (At.tup (by rw[bW hq2]; exact z45 _ _ aaA) (bD [ru,rd])) (aj.cons (A1.mono (SX.of s5)) aj.nil)))))))
structure StL (x:cD):Prop where
 w:Xy x.w
 r:0<=x.r
 c:x.cs.length=5
 cn:∀y∈x.cs,0<=y
 sm:x.r+x.cs.sum<=12
 s:0<=x.s/\x.s<=5
 t:0<=x.t/\x.t<=9
 u:x.us.length=3
 ul:∀y∈x.us,QD y
theorem StL.is {x:cD} (h:StL x):fu x:=⟨h.c,h.u,fun y hy=>by obtain⟨a,b,c,rfl,_⟩:=h.ul y hy; rfl⟩
def Bx:Sp:=fun vs H Q _=>∃(a:Addr) (n:Nat) (v:V) (x:cF),vs=[.ref a,v]/\At H (iD x) v/\W8 x/\Tp H a n/\n<=100000000/\∀p y H',StL y->At (hid a H') (iJ y) (.ref p)->Tp H' a (n+60)->SX a H H'->Q (.ref p) H'
theorem jU:aR ["_law_tape_here","_law_post","_law_called","_law_seen","_law_wait"] ["_law_tape_here","_law_post"] (aH ik):=(by walk_at "c")
theorem rD (F:jk K "_law_small_stand" "_law_small_stand" ik f fd) (B:Bi mg) (bf:Ct P w K mg base k "_law_draw" ["_law_tape_here","_law_many"] lX):bM P w K mg base iH (k+1) f fd ["_law_tape_here","_law_post"] Bx:=by
 refine F.ok jU (by rintro vs H Q E ⟨a,n,v,x,rfl,_⟩; rfl) (fun cdv A outer s H vs Q E hr h=>?_)
 obtain⟨a,n,pA,x,rfl,aA,hx,tp,hn,q⟩:=h
 have ND:=jU.nd
 refine⟨_,(aq (dG (bw mU (pf bf hr (aa (pv 0) (aa ao ak))) ao (bA _)) (aJ (aV (aY (aa ao (aa (bz aU (bz aU (pv 1) ao (fun _ _=>rfl)) ao (fun _ _=>rfl)) (aa (aY (aa ao (aa ao (aa ao (aa ao (aa ao ak)))))) (aa ao (aa ao (aa (aY (aa (aY (aa ao (aa ao (aa ao ak)))) (aa (aY (aa ao (aa ao (aa ao ak)))) (aa (aY (aa ao (aa ao (aa ao ak)))) ak)))) ak))))))))) bT) (aq (a_ (i:=2) ND rfl (by walk_at "o") (pt (cz) B.tuple cT (aa (gP (N':=["_law_k","_law_tape_here"]) (js:=[0]) rfl (fB (by rfl) B.range (aa ao ak)) tO.mk1 rfl (by decide) rfl (fun fp s' H'=>(bz aU (cX (aa ao (aa ao (aa ao (aa ao (aa ao ak)))))) (pf bf hr (aa (pv 1) (aa ao ak))) (fun _ _=>rfl)))) ak))) (aq (a_ (i:=3) ND rfl (by walk_at "o") (pt (cz) B.tuple cT (aa (gP (N':=["_law_j","_law_tape_here"]) (js:=[0]) rfl (fB (by rfl) B.range (aa ao ak)) tO.mk1 rfl (by decide) rfl (fun fp s' H'=>(pt (cz) B.tuple cT (aa (gP (N':=["_law_k","_law_tape_here"]) (js:=[1]) rfl (fB (by rfl) B.range (aa ao ak)) tO.mk1 rfl (by decide) rfl (fun fp s' H'=>(pf bf hr (aa (pv 1) (aa ao ak))))) ak)))) ak))) (aq (a_ (i:=4) ND rfl (by walk_at "o") (pf bf hr (aa (pv 0) (aa (bz aU (cX (aa ao (aa ao (aa ao ak)))) (pf bf hr (aa (pv 0) (aa ao ak))) (fun _ _=>rfl)) ak)))) (aJ (aV (aY (aa (pv 4) (aa (pf bf hr (aa (pv 0) (aa ao ak))) (aa (pv 2) (aa (pf bf hr (aa (pv 0) (aa ao ak))) (aa (pf bf hr (aa (pv 0) (aa ao ak))) (aa (pv 3) ak))))))))))))),?_⟩
 walk_at "rd"
 refine fP.of tp (by omega) (by decide) (by decide) fun y1 H1 l1 u1 t1 s1=>?_
 walk_at "rd"
 refine iw (fun c1=>?_) (fun c1=>?_)
 ·obtain⟨pa,pb,pc,pd,rfl,p1,p2,_,_⟩:=vf aA
  have na:=tp.neT p1
  have nb:=tp.neT p2
  refine Ix.tup (s1.get na p1) (v:=.ref pb) rfl (Ix.tup (s1.get nb p2) (v:=.int x.lo) rfl ⟨(by decide),fun q1 G1 g1 r1 d1=>⟨(by decide),fun q2 G2 g2 r2 d2=>⟨(by decide),fun q3 G3 g3 r3 d3=>⟨(by decide),fun q4 G4 g4 r4 d4=>⟨(by decide),fun q5 G5 g5 r5 d5=>⟨(by decide),fun q6 G6 g6 r6 d6=>?_⟩⟩⟩⟩⟩⟩)
  have m1:=t1.ne g1
  have m2:=(t1.same r1).ne g2
  have m3:=((t1.same r1).same r2).ne g3
  have m4:=(((t1.same r1).same r2).same r3).ne g4
  have m5:=((((t1.same r1).same r2).same r3).same r4).ne g5
  have m6:=(((((t1.same r1).same r2).same r3).same r4).same r5).ne g6
  have r16:=r1.trans (r2.trans (r3.trans (r4.trans (r5.trans r6))))
  have T0:∀qq:Addr,qq≠a->G6 qq=some (.tup [.int 0,.int 0,.int 0])->At (hid a G6) (dh [0,0,0]) (.ref qq):=fun qq mq dq=>At.tup (by rw[bW mq]; exact dq) (bD [0,0,0])
  have hlo:=hx.lo
  have hhi:=hx.hi
  refine q q6 ⟨0,x.lo,[0,0,0,0,0],0,0,[[0,0,0],[0,0,0],[0,0,0]]⟩ G6 ⟨by show Xy 0; exact⟨by decide,by decide⟩,hlo.1,rfl,fun y hy=>?_,by show x.lo+0<=12; omega,by show(0:Int)<=0/\(0:Int)<=5; decide,by show(0:Int)<=0/\(0:Int)<=9; decide,rfl,fun y hy=>?_⟩ ?_ ((t1.same r16).mono (by omega)) (s1.trans (SX.of r16))
  ·simp only[b8,qd,or_false,or_self] at hy
   rw[hy]; decide
  ·simp only[b8,qd,or_false,or_self] at hy
   rw[hy]; exact⟨0,0,0,rfl,⟨by decide,by decide⟩,⟨by decide,by decide⟩,⟨by decide,by decide⟩⟩
  ·exact At.tup (by rw[bW m6]; exact d6) (aj.cons (At.int _) (aj.cons (At.int _) (aj.cons (At.tup (by rw[bW m1]; exact r6 _ _ (r5 _ _ (r4 _ _ (r3 _ _ (r2 _ _ d1))))) (bD [0,0,0,0,0])) (aj.cons (At.int _) (aj.cons (At.int _) (aj.cons (At.tup (by rw[bW m5]; exact r6 _ _ d5) (aj.cons (T0 q2 m2 (r6 _ _ (r5 _ _ (r4 _ _ (r3 _ _ d2))))) (aj.cons (T0 q3 m3 (r6 _ _ (r5 _ _ (r4 _ _ d3)))) (aj.cons (T0 q4 m4 (r6 _ _ (r5 _ _ d4))) aj.nil)))) aj.nil))))))
 ·rw[iI]
  walk_at "rd"
  refine CK.of (n:=5) rfl (by decide) fun QB IW=>?_
  have ZJ:QB≠a:=t1.ne IW
  refine⟨fun i zs H'=>∃cs:List Int,zs=cs.map V.int/\cs.length=i/\(∀c∈cs,0<=c/\c<=2)/\H' QB=some (.lst zs)/\Tp H' a (n+1+i)/\SX a H1 H',⟨[],rfl,rfl,fun c h=>by simp at h,az,t1.dw ZJ,(SX.refl a H1).dw IW ZJ⟩,?_,?_⟩
  ·rintro i zs H4 hi ⟨cs,rfl,lc,hc,c4,t4,s4⟩
   show Uk _ _ _ [some _,some (.ref a)] H4 _
   walk_at "rd"
   refine⟨(by decide),fun p5 H5 f5 r5 e5=>fP.of (t4.same r5) (by omega) (by decide) (by decide) fun y6 H6 l6 u6 t6 s6=>?_⟩
   have n5:=t4.ne f5
   obtain⟨v,hv,ev⟩:=iM (ts:=[0,0,0,1,2]) l6 u6
   have hv':0<=v/\v<=2:=by
    simp only[b8,qd,or_false] at hv
    rcases hv with rfl | rfl | rfl | rfl | rfl <;> decide
   refine Ix.lst (s6.get n5 e5) ev ⟨s6.get ZJ (r5 _ _ c4),by rw[bR]; exact bj (by omega),cs++[v],by rw[jm]; rfl,by rw[gD,lc]; rfl,fun c hc'=>?_,az,(t6.dw ZJ).mono (by omega),(s4.trans ((SX.of r5).trans s6)).dw IW ZJ⟩
   rcases oV.mp hc' with z | z
   ·exact hc c z
   ·rw[fj.mp z]; exact hv'
  ·rintro zs H4 ⟨cs,rfl,lc,hc,c4,t4,s4⟩
   refine⟨QB,_,rfl,c4,fun Xr hl2=>?_⟩
   have la2:Xr≠a:=t4.ne hl2
   have A2:At (hid a (upd H4 Xr (.tup (cs.map V.int)))) (.tuple (cs.map .int)) (.ref Xr):=by
    rw[cU la2]
    exact At.tup az (bD cs)
   have t5:Tp (upd H4 Xr (.tup (cs.map V.int))) a (n+6):=t4.dw la2
   have x5:SX a H1 (upd H4 Xr (.tup (cs.map V.int))):=s4.trans (SX.of (aO hl2 _))
   generalize upd H4 Xr (.tup (cs.map V.int))=H5 at *
   show gq _ _ _ _ _ _
   rw[iI]
   walk_at "rd"
   refine CK.of (n:=3) rfl (by decide) fun acc hacc=>?_
   have ca:acc≠a:=t5.ne hacc
   refine⟨fun i ys H'=>∃us:List (List Int),us.length=i/\(∀u∈us,QD u)/\aj (hid acc (hid a H')) (us.map dh) ys/\ys.length=i/\H' acc=some (.lst ys)/\Tp H' a (n+6+3*i)/\SX a H5 H',⟨[],rfl,fun u h=>by simp at h,aj.nil,rfl,az,t5.dw ca,(SX.refl a H5).dw hacc ca⟩,?_,?_⟩
   ·rintro i ys H2 hi ⟨us,l2,u2,a2,y2,c2,t2,s2⟩
    show Vx _ _ [some _,some (.ref a)] H2 _
    walk_at "rd"
    rw[iI]
    walk_at "rd"
    refine CK.of (n:=3) rfl (by decide) fun TF DP=>?_
    have ZG:TF≠a:=t2.ne DP
    have c23:acc≠TF:=fun z=>by rw[<- z,c2] at DP; cases DP
    refine⟨fun j zs H'=>∃es:List Int,zs=es.map V.int/\es.length=j/\(∀c∈es,0<=c/\c<7)/\H' TF=some (.lst zs)/\Tp H' a (n+6+3*i+j)/\SX a H2 H',⟨[],rfl,rfl,fun c h=>by simp at h,az,t2.dw ZG,(SX.refl a H2).dw DP ZG⟩,?_,?_⟩
    ·rintro j zs H6 hj ⟨es,rfl,le,he,c6,t6,s6⟩
     show rQ _ _ _ _ [some _,some (.ref a)] H6 _
     walk_at "rd"
     refine fP.of t6 (by omega) (by decide) (by decide) fun v H7 l7 u7 t7 s7=>⟨s7.get ZG c6,by rw[bR]; exact bj (by omega),es++[v],by rw[jm]; rfl,by rw[gD,le]; rfl,fun c hc'=>?_,az,(t7.dw ZG).mono (by omega),(s6.trans s7).dw DP ZG⟩
     rcases oV.mp hc' with z | z
     ·exact he c z
     ·rw[fj.mp z]; exact⟨l7,u7⟩
    ·rintro zs H6 ⟨es,rfl,le,he,c6,t6,s6⟩
     refine⟨TF,_,rfl,c6,fun t ht=>?_⟩
     have ta:t≠a:=t6.ne ht
     have c26:=s6.get ca c2
     have tc:t≠acc:=fun z=>by subst z; rw[ht] at c26; cases c26
     have Rh:=aO ht (HO.tup (es.map V.int))
     have e7:upd H6 t (.tup (es.map V.int)) t=some (.tup (es.map V.int)):=az
     generalize upd H6 t (.tup (es.map V.int))=H7 at Rh e7 ⊢
     have s27:=s6.trans (SX.of (a:=a) Rh)
     have tri:QD es:=by
      obtain⟨v1,v2,v3,rfl⟩:=KD le
      have h1:=he v1 (by simp)
      have h2:=he v2 (by simp)
      have h3:=he v3 (by simp)
      exact⟨v1,v2,v3,rfl,⟨h1.1,by omega⟩,⟨h2.1,by omega⟩,⟨h3.1,by omega⟩⟩
     refine⟨Rh _ _ c26,bj (by omega),us++[es],by rw[gD,l2]; rfl,fun u hu=>?_,?_,by rw[gD,y2]; rfl,az,?_,?_⟩
     ·rcases oV.mp hu with z | z
      ·exact u2 u z
      ·rw[fj.mp z]; exact tri
     ·rw[cU ca,iG,jm]
      refine aj.append (a2.mono (aC.hid s27)) (aj.cons (At.tup (by rw[bW tc,bW ta]; exact e7) (bD es)) aj.nil)
     ·exact((t6.same Rh).dw ca).mono (by omega)
     ·exact(s2.trans s27).dw hacc ca
   ·rintro ys H2 ⟨us,l2,u2,a2,y2,c2,t2,s2⟩
    refine⟨acc,ys,rfl,c2,fun l hl=>?_⟩
    have la:l≠a:=t2.ne hl
    have A1:At (hid a (upd H2 l (.tup ys))) (.tuple (us.map dh)) (.ref l):=by
     rw[cU la]
     have fr:hid a H2 l=none:=by rw[bW la]; exact hl
     exact At.tup az ((a2.mono gU).mono (aO fr _))
    have t3:Tp (upd H2 l (.tup ys)) a (n+6+9):=t2.dw la
    have x3:SX a H5 (upd H2 l (.tup ys)):=s2.trans (SX.of (aO hl _))
    generalize upd H2 l (.tup ys)=H3 at *
    try walk_at "rd"
    refine⟨(by decide),fun p5 G5 f5 r5 e5=>fP.of (t3.same r5) (by omega) (by decide) (by decide) fun y6 G6 l6 u6 t6 s6=>?_⟩
    have n5:=t3.ne f5
    obtain⟨mm,hmm,emm⟩:=iM (ts:=[3,9,15]) l6 u6
    have abv:3<=mm/\mm<=15:=by
     simp only[b8,qd,or_false] at hmm
     rcases hmm with rfl | rfl | rfl <;> decide
    refine Ix.lst (s6.get n5 e5) emm ?_
    refine fP.of t6 (by omega) (by omega) (by omega) fun v6 H6 l6' u6' t6' s6'=>?_
    refine fP.of t6' (by omega) (by decide) (by decide) fun v7 H7 l7 u7 t7 s7=>?_
    refine fP.of t7 (by omega) (by decide) (by decide) fun v8 H8 l8 u8 t8 s8=>?_
    refine fP.of t8 (by omega) (by decide) (by decide) fun v9 H9 l9 u9 t9 s9=>⟨(by decide),fun z Bj hz rY e10=>?_⟩
    have za:z≠a:=t9.ne hz
    have x10:SX a H3 Bj:=(SX.of r5).trans (s6.trans (s6'.trans (s7.trans (s8.trans (s9.trans (SX.of rY))))))
    have hsum:cs.sum<=10:=by
     obtain⟨e0,e1,e2,e3,e4,rfl⟩:=abi lc
     have h0:=hc e0 (by simp)
     have h1:=hc e1 (by simp)
     have h2:=hc e2 (by simp)
     have h3:=hc e3 (by simp)
     have h4:=hc e4 (by simp)
     simp only[List.sum_cons,List.sum_nil]
     omega
    refine q z ⟨v6,v7,cs,v8,v9,us⟩ Bj ⟨by show 0<=v6/\v6<=1000000000000; omega,l7,lc,fun y hy=>(hc y hy).1,by show v7+cs.sum<=12; omega,⟨l8,by show v8<=5; omega⟩,⟨l9,by show v9<=9; omega⟩,l2,u2⟩ ?_ ((t9.same rY).mono (by omega)) (s1.trans (x5.trans (x3.trans x10)))
    exact At.tup (by rw[bW za]; exact e10) (aj.cons (At.int _) (aj.cons (At.int _) (aj.cons ((A2.mono x3).mono x10) (aj.cons (At.int _) (aj.cons (At.int _) (aj.cons (A1.mono x10) aj.nil))))))
def Hl:Sp:=fun vs H Q _=>∃(a:Addr) (n:Nat),vs=[.ref a]/\Tp H a n/\n<=100000000/\∀p c H',El c->(∀q∈c,q.1<=4/\q.2<=3)->At (hid a H') (yN c) (.ref p)->Tp H' a (n+20)->SX a H H'->Q (.ref p) H'
theorem uA:aR ["_law_tape_here","_law_many"] ["_law_tape_here"] (aH qX):=(by walk_at "c")
theorem F_ (F:jk K "_law_curve" "_law_curve" qX f fd) (B:Bi mg) (bf:Ct P w K mg base k "_law_draw" ["_law_tape_here","_law_many"] lX):bM P w K mg base iH (k+1) f fd ["_law_tape_here"] Hl:=by
 refine F.ok uA (by rintro vs H Q E ⟨a,n,rfl,_⟩; rfl) (fun cdv A outer s H vs Q E hr h=>?_)
 obtain⟨a,n,rfl,tp,hn,q⟩:=h
 have ND:=uA.nd
 refine⟨_,(aq (a_ (i:=1) ND rfl (by walk_at "o") (bz aU (cX (aa ao (aa ao (aa ao (aa (aZ bN ao (pf bf hr (aa (pv 0) (aa ao ak)))) ak))))) (pf bf hr (aa (pv 0) (aa ao ak))) (fun _ _=>rfl))) (aJ (aV (pt (cz) B.tuple cT (aa (gP (N':=["_law_k","_law_tape_here"]) (js:=[0]) rfl (fB (by rfl) B.range (aa (pv 1) ak)) tO.mk1 rfl (by decide) rfl (fun fp s' H'=>(aY (aa (pf bf hr (aa (pv 1) (aa ao ak))) (aa (pf bf hr (aa (pv 1) (aa ao ak))) ak))))) ak))))),?_⟩
 walk_at "rd"
 refine fP.of tp (by omega) (by decide) (by decide) fun y1 H1 l1 u1 t1 s1=>⟨_,_,rfl,rfl,(by decide),fun p2 H2 f2 r2 e2=>fP.of (t1.same r2) (by omega) (by decide) (by decide) fun y3 H3 l3 u3 t3 s3=>?_⟩
 have n2:=t1.ne f2
 obtain⟨mm,hmm,emm⟩:=iM (ts:=[1,1,1,2+y1]) l3 u3
 have abv:1<=mm/\mm<=3:=by
  simp only[b8,qd,or_false] at hmm
  rcases hmm with rfl | rfl | rfl | rfl <;> omega
 refine Ix.lst (s3.get n2 e2) emm ?_
 have x3:SX a H H3:=s1.trans ((SX.of r2).trans s3)
 rw[iI]
 walk_at "rd"
 refine CK.of (n:=mm.toNat) (by omega) (by omega) fun acc hacc=>?_
 have ca:acc≠a:=t3.ne hacc
 refine⟨fun i ys H'=>∃c:Cv,c.length=i/\(∀q∈c,(0<=q.1/\q.1<=4)/\0<=q.2/\q.2<=3)/\aj (hid acc (hid a H')) (c.map RJ) ys/\ys.length=i/\H' acc=some (.lst ys)/\Tp H' a (n+2+2*i)/\SX a H3 H',⟨[],rfl,fun u h=>by simp at h,aj.nil,rfl,az,t3.dw ca,(SX.refl a H3).dw hacc ca⟩,?_,?_⟩
 ·rintro i ys H4 hi ⟨c,lc,hc,a4,y4,c4,t4,s4⟩
  show Mw _ [some _,some (.ref a)] H4 _
  walk_at "rd"
  refine fP.of t4 (by omega) (by decide) (by decide) fun v1 H5 l5 u5 t5 s5=>fP.of t5 (by omega) (by decide) (by decide) fun v2 H6 l6 u6 t6 s6=>⟨(by decide),fun t H7 ht s7 e7=>?_⟩
  have VH:=s5.trans s6
  have s47:=VH.trans (SX.of s7)
  have ta:t≠a:=t6.ne ht
  have c6:=VH.get ca c4
  have tc:t≠acc:=fun z=>by subst z; rw[ht] at c6; cases c6
  refine⟨s7 _ _ c6,bj (by omega),c++[(v1,v2)],by rw[gD,lc]; rfl,fun u hu=>?_,?_,by rw[gD,y4]; rfl,az,?_,?_⟩
  ·rcases oV.mp hu with z | z
   ·exact hc u z
   ·rw[fj.mp z]; exact⟨⟨l5,by show v1<=4; omega⟩,l6,by show v2<=3; omega⟩
  ·rw[cU ca,iG,jm]
   refine aj.append (a4.mono (aC.hid s47)) (aj.cons (At.tup (by rw[bW tc,bW ta]; exact e7) (bD [v1,v2])) aj.nil)
  ·exact((t6.same s7).dw ca).mono (by omega)
  ·exact(s4.trans s47).dw hacc ca
 ·rintro ys H4 ⟨c,lc,hc,a4,y4,c4,t4,s4⟩
  refine⟨acc,ys,rfl,c4,fun l hl=>?_⟩
  have la:l≠a:=t4.ne hl
  have A1:At (hid a (upd H4 l (.tup ys))) (yN c) (.ref l):=by
   rw[cU la]
   have fr:hid a H4 l=none:=by rw[bW la]; exact hl
   exact At.tup az ((a4.mono gU).mono (aO fr _))
  exact q l c _ ⟨fun z=>by rw[z] at lc; simp at lc; omega,by omega,fun q hq=>⟨(hc q hq).1.1,(hc q hq).2.1⟩⟩ (fun q hq=>⟨(hc q hq).1.2,(hc q hq).2.2⟩) A1 ((t4.dw la).mono (by omega)) (x3.trans (s4.trans (SX.of (aO hl _))))
theorem Bc {ls:List Int} {i:Nat} {j:Int} (e:j=(i:Int)) (h:i<ls.length):GR (ls.map V.int) j=some (.int (ls.getD i 0)):=by
 rw[e]
 exact bx (by rw[g8,iB,eV h]; rfl)
theorem oZ {ws:List Int} {i:Nat} {u v:List Int} (h:∀j,j<3->ws.getD j 0>(i:Int)->u.getD j 0=v.getD j 0):bQ ws i u=bQ ws i v:=by
 unfold bQ
 refine List.map_congr_left fun j hj=>?_
 have hj:=zN.mp hj
 by_cases c:ws.getD j 0>(i:Int)
 ·rw[aM c,aM c,h j hj c]
 ·rw[aK c,aK c]
theorem lq (ws:List Int) (i:Nat) (u:List Int):bQ ws i (bQ ws i u)=bQ ws i u:=by
 refine oZ fun j hj hg=>?_
 match j,hj,hg with
 | 0,_,hg=>show(if ws.getD 0 0>(i:Int) then u.getD 0 0 else 0)=_; rw[aM hg]
 | 1,_,hg=>show(if ws.getD 1 0>(i:Int) then u.getD 1 0 else 0)=_; rw[aM hg]
 | 2,_,hg=>show(if ws.getD 2 0>(i:Int) then u.getD 2 0 else 0)=_; rw[aM hg]
theorem Dw (ws:List Int) (us:List (List Int)):cI ws (cI ws us)=cI ws us:=by
 show[bQ ws 0 (bQ ws 0 _),bQ ws 1 (bQ ws 1 _),bQ ws 2 (bQ ws 2 _)]=[bQ ws 0 _,bQ ws 1 _,bQ ws 2 _]
 rw[lq,lq,lq]
theorem KJ (x:cF) (st:cD):dB x (dB x st)=dB x st:=by
 show cD.mk st.w st.r st.cs (if x.e-1<(if x.e-1<st.s then x.e-1 else st.s) then x.e-1 else(if x.e-1<st.s then x.e-1 else st.s)) st.t (cI (fC x) (cI (fC x) st.us))=_
 rw[Dw]
 have:(if x.e-1<(if x.e-1<st.s then x.e-1 else st.s) then x.e-1 else(if x.e-1<st.s then x.e-1 else st.s))=if x.e-1<st.s then x.e-1 else st.s:=by
  by_cases h:x.e-1<st.s
  ·rw[aM h,aK (by omega)]
  ·rw[aK h,aK h]
 rw[this]
 rfl
theorem qG {x:cF} {c:Cv} {st:cD} {n:Nat} (h:(aG x c st n).length=n) (q:Nat):(aG x c st q).length<=n:=by
 by_cases z:q<=n
 ·have:=mZ (x:=x) (cv:=c) (st:=st) z; omega
 ·have:=Io h (q-n)
  rw[show n+(q-n)=q by omega] at this
  rw[this]; omega
theorem done_one {x:cF} {c:Cv} {st:cD} {n n':Nat} (h:(aG x c st n).length=n) (h':(aG x c st n').length=n'):n=n':=by
 have h1:=qG h n'
 have h2:=qG h' n
 omega
theorem nM {x:cF} {c:Cv} {st:cD} (p i:Nat):∀d,∃r,bL x c st p (i+d)=bL x c st p i++r
 | 0=>⟨[],by simp⟩
 | d+1=>by
  obtain⟨r,hr⟩:=nM (x:=x) (c:=c) (st:=st) p i d
  obtain⟨r',hr'⟩:=Jq (x:=x) (cv:=c) (e:=cC (aG x c st p) p) (p:=p) (es:=bL x c st p (i+d)) (c:=i+d)
  refine⟨r++r',?_⟩
  show Bd x c (cC (aG x c st p) p) p (bL x c st p (i+d)) (i+d)=_
  rw[hr',hr,Cg]
theorem zT {x:cF} {c:Cv} {st:cD} {p i:Nat} (hp:p<(aG x c st p).length) (hi:i<=km c (cC (aG x c st p) p)):(bL x c st p i).length<=(aG x c st (p+1)).length:=by
 obtain⟨r,hr⟩:=nM (x:=x) (c:=c) (st:=st) p i (km c (cC (aG x c st p) p)-i)
 rw[show i+(km c (cC (aG x c st p) p)-i)=km c (cC (aG x c st p) p) by omega] at hr
 rw[mY hp,hr,gD]; omega
theorem ql {x:cF} {c:Cv} {st:cD} {bd bd':Option Int} {lim Zi:Int} {n p i:Nat} (D:eG x c st bd lim n) (M:wK x c st bd' Zi p i) (h:lim<=Zi\/n=1):False:=by
 have h1:(bL x c st p (i+1)).length=(bL x c st p i).length+1:=by rw[i_,aK M.hk,gD]; rfl
 have h2:=zT M.hp (show i+1<=_ from M.hc)
 have h3:=qG D.hn (p+1)
 have h4:=nO (x:=x) (cv:=c) (st:=st) (p:=p) (c:=i)
 have h5:=tY (x:=x) (cv:=c) (st:=st) p
 have h6:=M.hl
 have h7:=D.hl
 omega
variable {aQ aW:Addr}
variable {aQ aW:Addr}
def um (CM CW:Addr):Sp:=fun vs H Q E=>∃(v u cv:V) (x:cF) (st:cD) (c:Cv) (bd lim:Int),vs=[v,u,cv,.int bd,.int lim]/\At H (iD x) v/\At H (iJ st) u/\At H (yN c) cv/\kh x/\Bm x/\fu st/\El c/\0<=lim/\lim<=900 /\
 (23<bH c (c.map (·.1))->∀H',aC H H'->E (.ref CW) none H') /\
 (bH c (c.map (·.1))<=23->∀n,eG x c st (some bd) lim n->∀p l ys H',aC H H'->H l=none->H' p=some (.tup [.str "kept",.ref l])->H' l=some (.lst ys)->aj H' ((aG x c st n).map fM) ys->Q (.ref p) H') /\
 (bH c (c.map (·.1))<=23->∀p cc,wO x c st (some bd) lim p cc->∀q r H',aC H H'->H r=none->H' q=some (.tup [.str "broken",.ref r])->H' r=some (.lst ((bU (bL x c st p cc) (bL x c st p cc).length p++[(cc:Int)]).map V.int))->Q (.ref q) H') /\
 (bH c (c.map (·.1))<=23->∀p cc,wK x c st (some bd) lim p cc->∀H',aC H H'->E (.ref CM) none H')
theorem yc:aR ["post","stand","curve","bound","limit","entries","load"] ["post","stand","curve","bound","limit"] (aH uG):=(by walk_at "c")
theorem Kh {T:Addr} {tk:Tok} (F:tM K "opened" "opened" uG f fd T 300 tk) (O:Co K mg) (j9:Lr P w K mg base k "walked" ["post","stand","curve","bound","limit"] (uh aQ aW)) :
  bM P w K mg base (lR P w) (k+1) f fd ["post","stand","curve","bound","limit"] (um aQ aW):=by
 refine F.Xj yc (by rintro vs H Q E ⟨v,u,cv,x,st,c,bd,lim,rfl,_⟩; rfl) (fun cdv A outer s H vs Q E K5 hr h=>?_)
 obtain⟨v,u,cv,x,st,c,bd,lim,rfl,a1,a2,a3,hx,hn,hs,hv,hl1,hl2,qW,qD,qB,qM⟩:=h
 have ND:=yc.nd
 refine⟨_,(aq (dN (Y0 j9 hr (aa (pv 0) (aa (pv 1) (aa (pv 2) (aa (pv 3) (aa (pv 4) ak)))))) (bJ (K:=K) (n:=2) rfl rfl (aD (aF (i:=5) ND rfl (by walk_at "o")) (aD (aF (i:=6) ND rfl (by walk_at "o")) bI)))) (aJ (aV (mQ (bw FW (pv 6) dU (bA _)) (aY (aa (rm O.KEPT) (aa (pv 5) ak))) (aY (aa (rm O.BROKEN) (aa (pv 6) ak))))))),?_⟩
 walk_at "rd"
 refine⟨v,u,cv,x,st,c,some bd,lim,rfl,a1,a2,a3,hx,hn,hs,hv,hl1,hl2,fun h H' s' H3 s3=>qW h H3 (s3 s'),fun h n D v' H' s' ⟨p,l,ys,e1,e2,e3,e4,e5⟩=>?_,fun h p cc Bk v' r H' s' f' e' ⟨p',l,ys,e1,e2,e3,e4,e5⟩=>?_,fun h p cc M H' s' H3 s3=>qM h p cc M H3 (s3 s')⟩
 ·subst e1
  refine⟨p,_,rfl,cA.of e2,rfl,?_⟩
  walk_at "rd"
  refine⟨trivial,?_⟩
  rw[aM (by simp)]
  refine⟨(by decide),fun p2 H2 f2 s2 e6=>?_⟩
  exact qD h n D p2 l ys H2 (s'.trans s2) e3 e6 (s2 _ _ e4) (e5.mono s2)
 ·subst e1
  refine⟨p',_,rfl,cA.of e2,rfl,?_⟩
  walk_at "rd"
  refine⟨trivial,?_⟩
  rw[aK (by simp)]
  refine⟨(by decide),fun p2 H2 f2 s2 e6=>?_⟩
  exact qB h p cc Bk p2 r H2 (s'.trans s2) f' e6 (s2 _ _ e')
def c7 (es:List En):List Int:=es.map fun e=>e.st.w
def mW (es:List En):Int:=match c7 es with
 | []=>0
 | b::r=>dJ b r
theorem Zf {es:List En} (h:es≠[]):mW es∈c7 es/\∀y∈c7 es,y<=mW es:=by
 unfold mW
 cases e:c7 es with
 | nil=>exact absurd (List.map_eq_nil_iff.mp e) h
 | cons b r=>exact⟨(tW r b).2,(tW r b).1⟩
theorem DQ:∀{ns:List Int} {i:Int},i∈ns->∃j,Gn ns i j
 | n::ns,i,h=>by
  by_cases z:n=i
  ·exact⟨0,by rw[z]; rfl,fun m hm=>by omega⟩
  ·obtain⟨j,h1,h2⟩:=DQ (ns:=ns) (i:=i) (by rcases b8.mp h with q | q; exact absurd q.symm z; exact q)
   refine⟨j+1,by simpa using h1,fun m hm=>?_⟩
   cases m with
   | zero=>simpa using z
   | succ m=>simpa using h2 m (by omega)
def Hh (CM CW:Addr):Sp:=fun vs H Q E=>∃(v u cv:V) (x:cF) (st:cD) (c:Cv) (lim:Int),vs=[v,u,cv,.int lim]/\At H (iD x) v/\At H (iJ st) u/\At H (yN c) cv/\kh x/\Bm x/\fu st/\El c/\0<=lim/\lim<=900 /\
 (23<bH c (c.map (·.1))->∀H',aC H H'->E (.ref CW) none H') /\
 (bH c (c.map (·.1))<=23->∀n,eG x c st none lim n->eG x c st (some (mW (aG x c st n))) lim n->∀j q r H',Gn (c7 (aG x c st n)) (mW (aG x c st n)) j->aC H H'->H r=none->H' q=some (.tup [.int (mW (aG x c st n)),.ref r])->H' r=some (.lst ((bU (aG x c st n) (aG x c st n).length j).map V.int))->Q (.ref q) H') /\
 (bH c (c.map (·.1))<=23->∀n p cc,eG x c st none lim n->wO x c st (some (mW (aG x c st n))) lim p cc->∀q r H',aC H H'->H r=none->H' q=some (.tup [.non,.ref r])->H' r=some (.lst ((bU (bL x c st p cc) (bL x c st p cc).length p++[(cc:Int)]).map V.int))->Q (.ref q) H') /\
 (bH c (c.map (·.1))<=23->∀p cc,wK x c st none lim p cc->∀H',aC H H'->E (.ref CM) none H')
theorem l_:aR ["post","stand","curve","limit","entries","waits","bound","how","shown"] ["post","stand","curve","limit"] (aH jA):=(by walk_at "c")
theorem vA {T:Addr} {tk:Tok} (F:tM K "least_bound" "least_bound" jA f fd T 300 tk) (B:Bi mg) (O:Co K mg) (qJ:L_ P w K mg base k "led" ["post","stand","curve","limit"] 300 (Hg aQ aW)) (j_:L_ P w K mg base k "opened" ["post","stand","curve","bound","limit"] 300 (um aQ aW)) (iU:Ct P w K mg base k "load_to" ["entries","place"] uq) :
  bM P w K mg base (lR P w) (k+1) f fd ["post","stand","curve","limit"] (Hh aQ aW):=by
 refine F.Xj l_ (by rintro vs H Q E ⟨v,u,cv,x,st,c,lim,rfl,_⟩; rfl) (fun cdv A outer s H vs Q E K5 hr h=>?_)
 obtain⟨v,u,cv,x,st,c,lim,rfl,a1,a2,a3,hx,hn,hs,hv,hl1,hl2,qW,qD,qB,qM⟩:=h
 have ND:=l_.nd
 refine⟨_,(aq (a_ (i:=4) ND rfl (by walk_at "o") (Y0 qJ.all hr (aa (pv 0) (aa (pv 1) (aa (pv 2) (aa (pv 3) ak)))))) (aq (zP (i:=5) ND rfl (by walk_at "o") (N':=["entry"]) (js:=[]) rfl (h_ (K:=K) rfl (pv 4)) tO.mk0 rfl (by decide) rfl (fun fp s' H'=>(bz aU (bz aU (pv 0) ao (fun _ _=>rfl)) ao (fun _ _=>rfl)))) (aq (a_ (i:=6) ND rfl (by walk_at "o") (pb (yR rfl) B.max lF (aa (pv 5) ak))) (aq (dN (Y0 j_.all hr (aa (pv 0) (aa (pv 1) (aa (pv 2) (aa (pv 6) (aa (pv 3) ak)))))) (bJ (K:=K) (n:=2) rfl rfl (aD (aF (i:=7) ND rfl (by walk_at "o")) (aD (aF (i:=8) ND rfl (by walk_at "o")) bI)))) (aq (dG (bw mU (pv 7) (rm O.BROKEN) (bA _)) (aJ (aV (aY (aa dU (aa (pv 8) ak))))) bT) (aJ (aV (aY (aa (pv 6) (aa (pf iU hr (aa (pv 4) (aa (vo (K:=K) rfl PySem.F.plainAttrs_list PySem.F.slot_list_index PySem.F.type_list_index Ge (pv 5) (aa (pv 6) ak)) ak))) ak)))))))))),?_⟩
 walk_at "rd"
 refine⟨v,u,cv,x,st,c,lim,rfl,a1,a2,a3,hx,hn,hs,hv,hl1,hl2,fun h H' s' H3 s3=>qW h H3 (s3 s'),fun h n D l ys H1 s1 f1 e1 A1=>?_,fun h p cc M H' s' H3 s3=>qM h p cc M H3 (s3 s')⟩
 have hyl:ys.length=n:=by rw[A1.length,bR,D.hn]
 have hn9:n<=900:=by have:=D.hl; omega
 have hne:aG x c st n≠[]:=fun z=>by have:=tY (x:=x) (cv:=c) (st:=st) n; rw[z] at this; simp at this
 show gq _ _ _ _ _ _
 refine An (es:=(c7 (aG x c st n)).map PyData.int) (fun R hR=>by walk_at "rd"; exact hR) e1 (by rw[bR,c7,bR,D.hn,hyl]) (iz (bj (by rw[bR,c7,bR,D.hn]; omega))) (cu.mpr fun d hd=>by obtain⟨i,_,rfl⟩:=g_.mp hd; rfl) (fun i y e H2 hi he s2 R hR=>?_) (fun acc zs H2 s2 f2 e2 A2=>?_)
 ·have hil:i<(aG x c st n).length:=by rw[D.hn,<- hyl]; exact(fK.mp hi).1
  obtain⟨y',y1,y2⟩:=lH A1 hil
  rw[hi] at y1
  cases y1
  obtain⟨ea,v1,p2,v3,v4,rfl,g1,g2,_,_⟩:=jf y2
  obtain⟨sa,sb,sc,rfl,k1,_⟩:=gA g2
  walk_at "rd"
  refine Ix.tup (s2 _ _ g1) (v:=.ref sa) rfl (Ix.tup (s2 _ _ k1) (v:=.int (cC (aG x c st n) i).st.w) rfl (hR _ _ (aC.refl _) ?_))
  have:e=.int (cC (aG x c st n) i).st.w:=by
   rw[g8,c7,g8,eV hil] at he
   cases he
   unfold cC
   rw[iB,eV hil]
   rfl
  rw[this]
  exact At.int _
 have A2':=A2
 cases cg A2
 have hm:∃b r,c7 (aG x c st n)=b::r/\dJ b r=mW (aG x c st n):=by
  unfold mW
  cases e:c7 (aG x c st n) with
  | nil=>exact absurd (List.map_eq_nil_iff.mp e) hne
  | cons b r=>exact⟨b,r,rfl,rfl⟩
 obtain⟨b,r,h1,h2⟩:=hm
 refine⟨acc,b,r,rfl,by rw[e2,h1]; rfl,?_⟩
 rw[h2]
 have s12:=s1.trans s2
 refine⟨v,u,cv,x,st,c,mW (aG x c st n),lim,rfl,a1.mono s12,a2.mono s12,a3.mono s12,hx,hn,hs,hv,hl1,hl2,fun h'=>by omega,fun _ n' D' p l' ys' H3 s3 f3 e3 e4 A4=>?_,fun _ p cc Bk q r' H3 s3 f3 e3 e4=>?_,fun _ p cc M=>absurd (ql D M (.inl (uR _))) id⟩
 ·have hnn:n'=n:=done_one D'.hn D.hn
  subst hnn
  refine⟨p,_,rfl,cA.of e3,rfl,?_⟩
  walk_at "rd"
  rw[aK (by decide)]
  obtain⟨j,hj⟩:=DQ (Zf hne).1
  have hjl:j<(aG x c st n').length:=by
   have:=(fK.mp hj.1).1
   rw[c7,bR] at this
   exact this
  have e2':=s3 _ _ e2
  refine⟨.inl ⟨rfl,_,gW.of e2'⟩,acc,_,_,j,rfl,e2',rfl,(by rw[c7,bR,D.hn]; omega),hj,?_⟩
  refine⟨l,ys,aG x c st n',j,rfl,s3 _ _ (s2 _ _ e1),A1.mono (s2.trans s3),hjl,(by rw[D.hn]; omega),rE n',fun r2 H4 f4 s4 e5=>⟨(by decide),fun p3 H5 f5 s5 e6=>?_⟩⟩
  have uN:=s12.trans s3
  exact qD h n' D D' j p3 r2 H5 hj (uN.trans (s4.trans s5)) (aC.free uN f4) e6 (s5 _ _ e5)
 ·refine⟨q,_,rfl,cA.of e3,rfl,?_⟩
  walk_at "rd"
  rw[aM (by decide)]
  refine⟨(by decide),fun p3 H5 f5 s5 e6=>?_⟩
  exact qB h n p cc D Bk p3 r' H5 (s12.trans (s3.trans s5)) (aC.free s12 f3) e6 (s5 _ _ e4)
theorem Jc {m:Nat}:∀{ls:List (List fZ)},(∀l∈ls,l.length<=m)->ls.flatten.length<=ls.length*m
 | [],_=>by simp
 | l::ls,h=>by
  have h1:=h l (by simp)
  have h2:=Jc (ls:=ls) fun l' hl'=>h l' (by simp[hl'])
  rw[List.flatten_cons,gD,nU,Nat.succ_mul]
  omega
theorem V0 {x:cF} (h:W8 x):Bm x:=⟨by
 have h1:=Jc (m:=4) (ls:=x.eU) fun l hl=>(h.r l hl).hi
 have h2:=h.n
 have h3:x.eU.length*4<=3*4:=Nat.mul_le_mul_right 4 h2
 omega,fun r hr=>by
 obtain⟨l,hl,hr'⟩:=List.mem_flatten.mp hr
 exact((h.r l hl).g r hr').is⟩
theorem O1 {c:Cv} {m:Int} (hv:El c) (h:∀q∈c,q.2+q.1<=m):bH c (c.map (·.1))<=m:=by
 obtain⟨⟨i,p,l,e1,e2,e⟩,_⟩:=Ad hv.ne (show(c.map (·.1)).length=c.length by rw[bR])
 rw[g8,e1] at e2
 cases e2
 have:p.2+p.1<=m:=h p (jW e1)
 rw[e]; exact this
end
structure Wth (x:cF) (st n:cD) (ch:Int):Prop where
 w:n.w=st.w
 s:n.s=st.s
 u:n.us=st.us
 r:0<=n.r
 c:n.cs.length=5
 cn:∀y∈n.cs,0<=y
 sm:n.r+n.cs.sum=st.r+st.cs.sum+ch
 t:n.t=if ch=0 then st.t else if 0<ch then x.u else x.d
section
variable {P:Program} {w:World} {K:PySem.W.Frag} {mg:Str->Option Value} {base:Heap} {f:Addr} {fd:FuncData} {k:Nat}
structure StW (st:cD):Prop where
 is:fu st
 r:0<=st.r
 cn:∀y∈st.cs,0<=y
 sm:st.r+st.cs.sum<=12
 t:0<=st.t
section
variable {x:cF} {c:Cv} {st st':cD} {bd:Option Int} {lim:Int}
theorem vp {p i i':Nat} (h:i<=i'):(bL x c st p i).length<=(bL x c st p i').length:=by
 obtain⟨r,hr⟩:=nM (x:=x) (c:=c) (st:=st) p i (i'-i)
 rw[show i+(i'-i)=i' by omega] at hr
 rw[hr,gD]; omega
noncomputable def GQ (x:cF) (c:Cv) (st:cD) (p cc:Nat):List Int:=bU (bL x c st p cc) (bL x c st p cc).length p++[(cc:Int)]
end
theorem KQ {ws:List Int} {us vs:List (List Int)} (h:∀i,i<3->bQ ws i (us.getD i [])=bQ ws i (vs.getD i [])):cI ws us=cI ws vs:=by
 unfold cI
 refine List.map_congr_left fun i hi=>?_
 rw[zN] at hi
 exact h i hi
theorem vL {ws:List Int} {us vs:List (List Int)} (h:cI ws us=cI ws vs) {i j:Nat} (hi:i<3) (hj:j<3) (hg:ws.getD j 0>(i:Int)):(us.getD i []).getD j 0=(vs.getD i []).getD j 0:=by
 have h1:bQ ws i (us.getD i [])=bQ ws i (vs.getD i []):=by
  have:=jl (fun l=>l.getD i []) h
  match i,hi,this with
  | 0,_,z=>exact z
  | 1,_,z=>exact z
  | 2,_,z=>exact z
 have h2:(if ws.getD j 0>(i:Int) then(us.getD i []).getD j 0 else 0)=(if ws.getD j 0>(i:Int) then(vs.getD i []).getD j 0 else 0):=by
  have:=jl (fun l=>l.getD j 0) h1
  match j,hj,this with
  | 0,_,z=>exact z
  | 1,_,z=>exact z
  | 2,_,z=>exact z
 rw[aM hg,aM hg] at h2
 exact h2
theorem Ou {x:cF} {w:Str} (hw:w∈(["come","done","wait"]:List Str)):(fC x).getD (eY w) 0=d_ x.eU.flatten w:=by
 simp only[b8,qd,or_false] at hw
 rcases hw with rfl | rfl | rfl <;> rfl
theorem JH {x:cF} {us vs:List (List Int)} {hd:List Int} {r:fZ} (hr:r∈x.eU.flatten) (hR:oE r) (lu:us.length=3) (lv:vs.length=3) (h:cI (fC x) us=cI (fC x) vs):lW r.w r.s (hd::us)=lW r.w r.s (hd::vs):=by
 have hs:=hR.s
 have hn:(fC x).getD (eY r.w) 0≥(r.s:Int)-1:=by
  rw[Ou hR.w]
  exact(qO x.eU.flatten r.w).le r hr rfl
 have U9:=xQ r.w
 have g:∀i,i<3->i+1<r.s->(us.getD i []).getD (eY r.w) 0=(vs.getD i []).getD (eY r.w) 0:=fun i hi hl=>vL h hi U9 (by omega)
 obtain⟨u0,u1,u2,rfl⟩:=KD lu
 obtain⟨v0,v1,v2,rfl⟩:=KD lv
 unfold lW
 generalize eY r.w=ix at *
 have:r.s=1\/r.s=2\/r.s=3\/r.s=4:=by omega
 rcases this with e | e | e | e
 ·rw[e]; rfl
 ·have g0:u0.getD ix 0=v0.getD ix 0:=g 0 (by omega) (by omega)
  rw[e]
  show[hd.getD ix 0,u0.getD ix 0].sum=[hd.getD ix 0,v0.getD ix 0].sum
  rw[g0]
 ·have g0:u0.getD ix 0=v0.getD ix 0:=g 0 (by omega) (by omega)
  have g1:u1.getD ix 0=v1.getD ix 0:=g 1 (by omega) (by omega)
  rw[e]
  show[hd.getD ix 0,u0.getD ix 0,u1.getD ix 0].sum=[hd.getD ix 0,v0.getD ix 0,v1.getD ix 0].sum
  rw[g0,g1]
 ·have g0:u0.getD ix 0=v0.getD ix 0:=g 0 (by omega) (by omega)
  have g1:u1.getD ix 0=v1.getD ix 0:=g 1 (by omega) (by omega)
  have g2:u2.getD ix 0=v2.getD ix 0:=g 2 (by omega) (by omega)
  rw[e]
  show[hd.getD ix 0,u0.getD ix 0,u1.getD ix 0,u2.getD ix 0].sum=[hd.getD ix 0,v0.getD ix 0,v1.getD ix 0,v2.getD ix 0].sum
  rw[g0,g1,g2]
theorem rZ {h:Int} {t t':List (List Int)}:∀{rs:List fZ},(∀r∈rs,lW r.w r.s t=lW r.w r.s t')->gr h t rs=gr h t' rs
 | [],_=>rfl
 | r::rs,hh=>by
  have ih:=rZ (h:=h) (rs:=rs) fun z hz=>hh z (il _ hz)
  have e:says r h t=says r h t':=by
   unfold says
   rw[hh r jo]
  show(match says r h t with | some i=>i | none=>gr h t rs)=(match says r h t' with | some i=>i | none=>gr h t' rs)
  rw[e,ih]
theorem Et {x:cF} {h:Int} {us vs:List (List Int)} {hd:List Int} (hN:Bm x) (lu:us.length=3) (lv:vs.length=3) (hl:cI (fC x) us=cI (fC x) vs):pN x.eU x.lo x.hi h (hd::us)=pN x.eU x.lo x.hi h (hd::vs):=by
 have e:x.eU.map (gr h (hd::us))=x.eU.map (gr h (hd::vs)):=List.map_congr_left fun rs hrs=>rZ fun r hr=>
  have hm:r∈x.eU.flatten:=List.mem_flatten.mpr ⟨rs,hrs,hr⟩
  JH hm (hN.r r hm) lu lv hl
 unfold pN
 rw[e]
theorem KH {x:cF} {w r s t:Int} {cs:List Int} {us vs:List (List Int)} (h:cI (fC x) us=cI (fC x) vs) (ch:Int):dB x (jO x ⟨w,r,cs,s,t,us⟩ ch)=dB x (jO x ⟨w,r,cs,s,t,vs⟩ ch):=by
 unfold jO
 by_cases c1:ch=0
 ·rw[aM c1,aM c1]
  show cD.mk _ _ _ _ _ _=cD.mk _ _ _ _ _ _
  rw[h]
 ·rw[aK c1,aK c1]
  by_cases c2:0<ch
  ·rw[aM c2,aM c2]
   show cD.mk _ _ _ _ _ _=cD.mk _ _ _ _ _ _
   rw[h]
  ·rw[aK c2,aK c2]
   show cD.mk _ _ _ _ _ _=cD.mk _ _ _ _ _ _
   rw[h]
theorem Qs {x:cF} {A B:cD} {c fr:Int} (k1:∀hh,pN x.eU x.lo x.hi hh (dY x A c)=pN x.eU x.lo x.hi hh (dY x B c)) (k2:lg x.e A.s A.t=lg x.e B.s B.t) (k3:mJ A=mJ B) (k4:A.cs=B.cs):Ep x A c fr=Ep x B c fr:=by
 unfold Ep Aq
 rw[k2,k3,k4,k1]
theorem P_ {x:cF} {a b:cD} (hN:Bm x) (ha:fu a) (hb:fu b) (h:dB x a=dB x b) (c fr:Int) :
  dF x a c=dF x b c/\j7 x a c=j7 x b c/\Ep x a c fr=Ep x b c fr/\dB x (jO x (mX x a c) (Ep x a c fr))=dB x (jO x (mX x b c) (Ep x b c fr)):=by
 obtain⟨w,r,cs,s,t,us⟩:=a
 obtain⟨w',r',cs',s',t',us'⟩:=b
 have e1:w=w':=jl cD.w h
 have e2:r=r':=jl cD.r h
 have e3:cs=cs':=jl cD.cs h
 have e4:(if x.e-1<s then x.e-1 else s)=(if x.e-1<s' then x.e-1 else s'):=jl cD.s h
 have e5:t=t':=jl cD.t h
 have e6:cI (fC x) us=cI (fC x) us':=jl cD.us h
 subst e1 e2 e3 e5
 have f1:dF x ⟨w,r,cs,s,t,us⟩ c=dF x ⟨w,r,cs,s',t,us'⟩ c:=rfl
 have f2:j7 x ⟨w,r,cs,s,t,us⟩ c=j7 x ⟨w,r,cs,s',t,us'⟩ c:=rfl
 have f3:oJ x.e s=oJ x.e s':=by unfold oJ; split at e4 <;> split at e4 <;> split <;> split <;> omega
 have f4:lg x.e s t=lg x.e s' t:=by
  unfold lg
  have:(s+1<x.e)↔(s'+1<x.e):=by split at e4 <;> split at e4 <;> omega
  by_cases z:s+1<x.e
  ·rw[aM z,aM (this.mp z)]
  ·rw[aK z,aK (fun y=>z (this.mpr y))]
 have f5:Ep x ⟨w,r,cs,s,t,us⟩ c fr=Ep x ⟨w,r,cs,s',t,us'⟩ c fr:=by
  refine Qs (fun hh=>?_) f4 rfl rfl
  unfold dY
  rw[f1,f2]
  exact Et hN ha.u hb.u e6
 refine⟨f1,f2,f5,?_⟩
 rw[f5]
 generalize Ep x ⟨w,r,cs,s',t,us'⟩ c fr=ch
 obtain⟨u0,u1,u2,rfl⟩:=KD ha.u
 obtain⟨v0,v1,v2,rfl⟩:=KD hb.u
 simp only[mX,mJ,dY,f1,f2,f3,List.take_succ_cons,List.take_zero]
 refine KH (KQ fun i hi=>?_) ch
 match i,hi with
 | 0,_=>rfl
 | 1,_=>
  refine oZ fun j hj hg=>?_
  exact vL e6 (i:=0) (by omega) hj (by have:((1:Nat):Int)=1:=rfl; omega)
 | 2,_=>
  refine oZ fun j hj hg=>?_
  exact vL e6 (i:=1) (by omega) hj (by have:((2:Nat):Int)=2:=rfl; omega)
section
variable {x:cF} {c:Cv} {st:cD}
theorem H_ (p:Nat):∀k i,i<(bL x c st p k).length->i<(aG x c st p).length\/∃cc:Nat,cc<k/\(cC (bL x c st p k) i).fr=some (p,(cc:Int))/\i=(bL x c st p cc).length/\(bL x c st p (cc+1)).length=i+1
 | 0,i,h=>.inl h
 | k+1,i,h=>by
  by_cases hk:i<(bL x c st p k).length
  ·rcases H_ p k i hk with z | ⟨cc,h1,h2,h3,h4⟩
   ·exact .inl z
   ·refine .inr ⟨cc,by omega,?_,h3,h4⟩
    obtain⟨r,hr⟩:=nM (x:=x) (c:=c) (st:=st) p k 1
    rw[hr,jx hk]
    exact h2
  ·rw[i_] at h
   by_cases hin:(oX x c (cC (aG x c st p) p) p k).key∈(bL x c st p k).map En.key
   ·rw[aM hin] at h; exact absurd h hk
   ·rw[aK hin,gD] at h
    have h:i<(bL x c st p k).length+1:=h
    have hi:i=(bL x c st p k).length:=by omega
    refine .inr ⟨k,by omega,?_,hi,?_⟩
    ·rw[i_,aK hin]
     unfold cC
     rw[iB,zO (by omega),hi,zL]
     rfl
    ·rw[i_,aK hin,gD,hi]; rfl
theorem qw:∀p i,1<=i->i<(aG x c st p).length->∃q cc:Nat,q<(aG x c st q).length/\cc<km c (cC (aG x c st q) q)/\(cC (aG x c st p) i).fr=some (q,(cc:Int))/\i=(bL x c st q cc).length/\(bL x c st q (cc+1)).length=i+1
 | 0,i,h1,h=>by simp[aG] at h; omega
 | p+1,i,h1,h=>by
  by_cases hp:p<(aG x c st p).length
  ·have e:=mY hp
   rw[e] at h ⊢
   rcases H_ p _ i h with z | ⟨cc,g1,g2,g3,g4⟩
   ·obtain⟨q,cc,k1,k2,k3,k4,k5⟩:=qw p i h1 z
    refine⟨q,cc,k1,k2,?_,k4,k5⟩
    obtain⟨r,hr⟩:=nM (x:=x) (c:=c) (st:=st) p 0 (km c (cC (aG x c st p) p))
    rw[sy] at hr
    have e0:bL x c st p 0=aG x c st p:=rfl
    rw[hr,e0,jx z]
    exact k3
   ·exact⟨p,cc,hp,g1,g2,g3,g4⟩
  ·have e:aG x c st (p+1)=aG x c st p:=by rw[gG,aK hp]
   rw[e] at h ⊢
   exact qw p i h1 h
theorem Pa (p:Nat):(cC (aG x c st p) 0).fr=none:=by
 obtain⟨r,hr⟩:=jt (x:=x) (cv:=c) (st:=st) 0 p
 rw[sy] at hr
 rw[hr,jx (by simp[aG])]
 rfl
def wL (q cc p c':Nat):Prop:=q<p\/q=p/\cc<c'
theorem Tv {q cc p c' i:Nat} (h1:q<(aG x c st q).length) (h2:cc<km c (cC (aG x c st q) q)) (h3:i=(bL x c st q cc).length) (h4:(bL x c st q (cc+1)).length=i+1) (g1:p<(aG x c st p).length) (g2:c'<=km c (cC (aG x c st p) p)):wL q cc p c'↔i<(bL x c st p c').length:=by
 constructor
 ·rintro(h | ⟨rfl,h⟩)
  ·have k1:=zT h1 (show cc+1<=_ from h2)
   have k2:=mZ (x:=x) (cv:=c) (st:=st) (show q+1<=p from h)
   have k3:=nO (x:=x) (cv:=c) (st:=st) (p:=p) (c:=c')
   omega
  ·have:=vp (x:=x) (c:=c) (st:=st) (p:=q) (show cc+1<=c' from h)
   omega
 ·intro h
  by_cases z:wL q cc p c'
  ·exact z
  ·unfold wL at z
   by_cases w:p=q
   ·subst w
    have:=vp (x:=x) (c:=c) (st:=st) (p:=p) (show c'<=cc by omega)
    omega
   ·have k1:=zT g1 g2
    have k2:=mZ (x:=x) (cv:=c) (st:=st) (show p+1<=q by omega)
    have k3:=nO (x:=x) (cv:=c) (st:=st) (p:=q) (c:=cc)
    omega
theorem Dg {es r:List En} (hq:xN es):∀f p,p<es.length->bU (es++r) f p=bU es f p
 | 0,_,_=>rfl
 | f+1,p,hp=>by
  unfold bU
  rw[jx hp]
  cases e:(cC es p).fr with
  | none=>rfl
  | some qc=>
   obtain⟨q,cc⟩:=qc
   show bU (es++r) f q++[cc]=bU es f q++[cc]
   rw[Dg hq f q (by have:=hq p q cc hp e; omega)]
theorem Oi {n p cc:Nat} (hn:(aG x c st n).length=n) (hp:p<(aG x c st p).length) (hc:cc<=km c (cC (aG x c st p) p)):∃r,aG x c st n=bL x c st p cc++r:=by
 have hpn:p<n:=by have:=qG hn p; omega
 obtain⟨r1,h1⟩:=nM (x:=x) (c:=c) (st:=st) p cc (km c (cC (aG x c st p) p)-cc)
 rw[show cc+(km c (cC (aG x c st p) p)-cc)=km c (cC (aG x c st p) p) by omega,<- mY hp] at h1
 obtain⟨r2,h2⟩:=jt (x:=x) (cv:=c) (st:=st) (p+1) (n-(p+1))
 rw[show p+1+(n-(p+1))=n by omega,h1,Cg] at h2
 exact⟨_,h2⟩
theorem Qz {b:Option Int} {lim:Int} {n p cc:Nat} (hn:(aG x c st n).length=n) (Bk:wO x c st b lim p cc):GQ x c st p cc=bU (aG x c st n) n p++[(cc:Int)]:=by
 unfold GQ
 obtain⟨r,hr⟩:=Oi hn Bk.hp (iz Bk.hc)
 have hf:=FQ (c:=cc) Bk.hp
 have hpl:p<(bL x c st p cc).length:=by have:=nO (x:=x) (cv:=c) (st:=st) (p:=p) (c:=cc); have:=Bk.hp; omega
 have hl:(bL x c st p cc).length<=n:=by
  have:=jl List.length hr
  rw[hn,gD] at this
  omega
 rw[hr,Dg hf _ _ hpl,rB hf p _ n hpl hpl (by omega)]
end
def Uz (a b:List Int):Bool:=if a.length=b.length then j4 a b else decide (a.length<b.length)
theorem O3:∀a:List Int,j4 a a=false
 | []=>rfl
 | a::as=>by unfold j4; rw[aM rfl]; exact O3 as
theorem Il:∀a b:List Int,j4 a b=true->j4 b a=false
 | [],[],_=>rfl
 | [],_::_,_=>rfl
 | _::_,[],h=>by simp[j4] at h
 | a::as,b::bs,h=>by
  unfold j4 at h ⊢
  by_cases e:a=b
  ·rw[aM e] at h
   rw[aM e.symm]
   exact Il as bs h
  ·rw[aK e] at h
   rw[aK (Ne.symm e)]
   have:=uV h
   exact fH (by omega)
theorem Ii:∀(a b:List Int) (x y:Int),a.length=b.length->j4 a b=true->j4 (a++[x]) (b++[y])=true
 | [],[],_,_,_,h=>by simp[j4] at h
 | [],_::_,_,_,h,_=>by simp at h
 | _::_,[],_,_,h,_=>by simp at h
 | a::as,b::bs,x,y,hl,h=>by
  unfold j4 at h
  show j4 (a::(as++[x])) (b::(bs++[y]))=true
  unfold j4
  by_cases e:a=b
  ·rw[aM e] at h ⊢
   exact Ii as bs x y (by simpa using hl) h
  ·rw[aK e] at h ⊢
   exact h
theorem Ik:∀(a:List Int) (x y:Int),x<y->j4 (a++[x]) (a++[y])=true
 | [],x,y,h=>by
  show j4 [x] [y]=true
  unfold j4
  rw[aK (by omega)]
  exact iC h
 | a::as,x,y,h=>by
  show j4 (a::(as++[x])) (a::(as++[y]))=true
  unfold j4
  rw[aM rfl]
  exact Ik as x y h
def Er (a b:List Int):Prop:=a.length<b.length\/a.length=b.length/\j4 a b=true
theorem Er.no {a b:List Int} (h:Er a b):Uz b a=false:=by
 unfold Uz
 rcases h with h | ⟨h,e⟩
 ·rw[aK (by omega)]; exact fH (by omega)
 ·rw[aM h.symm]; exact Il _ _ e
theorem V1 (a:List Int):Uz a a=false:=by unfold Uz; rw[aM rfl]; exact O3 a
theorem Er.snoc {a b:List Int} (h:Er a b) (x y:Int):Er (a++[x]) (b++[y]):=by
 rcases h with h | ⟨h,e⟩
 ·exact .inl (by simp; omega)
 ·exact .inr ⟨by simp; omega,Ii _ _ _ _ h e⟩
theorem Er.last (a:List Int) {x y:Int} (h:x<y):Er (a++[x]) (a++[y]):=.inr ⟨by simp,Ik a x y h⟩
section
variable {x:cF} {c:Cv} {st:cD}
theorem rn {n fuel:Nat}:bU (aG x c st n) fuel 0=[]:=by
 cases fuel with
 | zero=>rfl
 | succ f=>unfold bU; rw[Pa]
theorem rA {n p q:Nat} {cc:Int} (hn:(aG x c st n).length=n) (hp:p<n) (e:(cC (aG x c st n) p).fr=some (q,cc)):q<p/\bU (aG x c st n) n p=bU (aG x c st n) n q++[cc]:=by
 have hq:q<p:=rE n p q cc (by omega) e
 refine⟨hq,?_⟩
 obtain⟨m,rfl⟩:∃m,n=m+1:=⟨n-1,by omega⟩
 conv=>lhs; unfold bU
 rw[e]
 show bU (aG x c st (m+1)) m q++[cc]=_
 rw[rB (rE (m+1)) q m (m+1) (by omega) (by omega) (by omega)]
theorem Oh {n:Nat} (hn:(aG x c st n).length=n):∀j,j<n->∀i,i<j->Er (bU (aG x c st n) n i) (bU (aG x c st n) n j):=by
 intro j
 induction j using Nat.strongRecOn with
 | _ j ih=>
  intro hj i hi
  obtain⟨q',c',a1,a2,a3,a4,a5⟩:=qw (x:=x) (c:=c) (st:=st) n j (by omega) (by omega)
  obtain⟨b1,b2⟩:=rA hn hj a3
  rw[b2]
  by_cases i0:i=0
  ·subst i0
   rw[rn]
   exact .inl (by simp)
  ·obtain⟨q,cc,k1,k2,k3,k4,k5⟩:=qw (x:=x) (c:=c) (st:=st) n i (by omega) (by omega)
   obtain⟨d1,d2⟩:=rA hn (by omega) k3
   rw[d2]
   have hl:wL q cc q' c':=(Tv k1 k2 k4 k5 a1 (by omega)).mpr (by omega)
   rcases hl with h | ⟨rfl,h⟩
   ·exact(ih q' b1 (by omega) q h).snoc _ _
   ·exact Er.last _ (by omega)
theorem Du {n p cc p' cc':Nat} (hn:(aG x c st n).length=n) (hp:p'<n) (h:wL p cc p' cc'):Er (bU (aG x c st n) n p++[(cc:Int)]) (bU (aG x c st n) n p'++[(cc':Int)]):=by
 rcases h with h | ⟨rfl,h⟩
 ·exact(Oh hn p' hp p h).snoc _ _
 ·exact Er.last _ (by omega)
end
section
variable {x:cF} {c:Cv} {st:cD}
theorem zU (p:Nat):∀k cc,cc<k->(oX x c (cC (aG x c st p) p) p cc).key∈(bL x c st p k).map En.key
 | 0,cc,h=>by omega
 | k+1,cc,h=>by
  rw[i_]
  by_cases e:cc=k
  ·subst e
   split
   ·assumption
   ·rw[jm]; exact ir _ (by simp)
  ·have ih:=zU p k cc (by omega)
   split
   ·exact ih
   ·rw[jm]; exact HB _ ih
theorem Ag {n p:Nat} (hn:(aG x c st n).length=n) (hp:p<n):p<(aG x c st p).length/\cC (aG x c st n) p=cC (aG x c st p) p:=by
 have h1:p<(aG x c st p).length:=by
  by_cases z:p<(aG x c st p).length
  ·exact z
  ·have e1:∀d,aG x c st (p+d)=aG x c st p:=fun d=>by
    induction d with
    | zero=>rfl
    | succ d ih=>rw[<- B_,gG,ih,aK (by omega)]
   have:=e1 (n-p)
   rw[show p+(n-p)=n by omega] at this
   rw[this] at hn
   omega
 refine⟨h1,?_⟩
 obtain⟨r,hr⟩:=jt (x:=x) (cv:=c) (st:=st) p (n-p)
 rw[show p+(n-p)=n by omega] at hr
 rw[hr,jx h1]
theorem Gr {n p cc q:Nat} (hn:(aG x c st n).length=n) (hp:p<n) (hc:cc<km c (cC (aG x c st n) p)):(oX x c (cC (aG x c st n) p) q cc).key∈(aG x c st n).map En.key:=by
 obtain⟨h1,h2⟩:=Ag hn hp
 rw[h2] at hc ⊢
 have h3:=zU (x:=x) (c:=c) (st:=st) p _ cc hc
 rw[<- mY h1] at h3
 obtain⟨r,hr⟩:=jt (x:=x) (cv:=c) (st:=st) (p+1) (n-(p+1))
 rw[show p+1+(n-(p+1))=n by omega] at hr
 rw[hr,jm]
 exact HB _ h3
end
def jQ (c:Cv) (L:List Int):List Int:=L.foldl (dW c) (c.map (·.1))
theorem pQ (c:Cv) (L:List Int) (x:Int):jQ c (L++[x])=dW c (jQ c L) x:=by
 unfold jQ
 rw[List.foldl_append]
 rfl
theorem Dt:∀a b c:List Int,a.length=b.length->b.length=c.length->j4 a b=true->j4 b c=true->j4 a c=true
 | [],[],_,_,_,h,_=>by simp[j4] at h
 | [],_::_,_,h,_,_,_=>by simp at h
 | _::_,[],_,h,_,_,_=>by simp at h
 | _::_,_::_,[],_,h,_,_=>by simp at h
 | a::as,b::bs,c::cs,h1,h2,k1,k2=>by
  unfold j4 at k1 k2 ⊢
  by_cases e:a=b
  ·rw[aM e] at k1
   by_cases e':b=c
   ·rw[aM e'] at k2
    rw[aM (e.trans e')]
    exact Dt as bs cs (by simpa using h1) (by simpa using h2) k1 k2
   ·rw[aK e'] at k2
    rw[aK (fun z=>e' (e.symm.trans z))]
    have:=uV k2
    exact iC (by omega)
  ·rw[aK e] at k1
   have g1:=uV k1
   by_cases e':b=c
   ·rw[aK (fun z=>e (z.trans e'.symm))]
    exact iC (by omega)
   ·rw[aK e'] at k2
    have g2:=uV k2
    rw[aK (by omega)]
    exact iC (by omega)
def LQ (a b:List Int):Prop:=a=b\/Er a b
theorem Er.trans {a b c:List Int} (h:Er a b) (k:Er b c):Er a c:=by
 rcases h with h | ⟨h,e⟩
 ·rcases k with k | ⟨k,_⟩
  ·exact .inl (by omega)
  ·exact .inl (by omega)
 ·rcases k with k | ⟨k,f⟩
  ·exact .inl (by omega)
  ·exact .inr ⟨by omega,Dt _ _ _ h k e f⟩
theorem LQ.trans {a b c:List Int} (h:LQ a b) (k:LQ b c):LQ a c:=by
 rcases h with rfl | h
 ·exact k
 ·rcases k with rfl | k
  ·exact .inr h
  ·exact .inr (h.trans k)
theorem LQ.snoc {a b:List Int} (h:LQ a b) (x:Int):LQ (a++[x]) (b++[x]):=by
 rcases h with rfl | h
 ·exact .inl rfl
 ·exact .inr (h.snoc x x)
theorem LQ.no {a b:List Int} (h:LQ a b):Uz b a=false:=by
 rcases h with rfl | h
 ·exact V1 _
 ·exact h.no
theorem RP (a b:List Int):Di ((a.map V.int).length:Int) ((b.map V.int).length:Int) a b=Uz a b:=by
 unfold Di Uz
 rw[bR,bR]
 by_cases h:a.length=b.length
 ·rw[aM (by omega),aM h]
 ·rw[aK (by omega),aK h]
  by_cases z:a.length<b.length
  ·rw[iC (by omega),iC z]
  ·rw[fH (by omega),fH z]
section
variable {x:cF} {c:Cv} {st:cD}
structure Jr (x:cF) (c:Cv) (st:cD) (n:Nat) (L:List Int) (p:Nat):Prop where
 hp:p<n
 es:(cC (aG x c st n) p).st=dB x (cM x st L)
 ss:(cC (aG x c st n) p).sp=jQ c L
 le:LQ (bU (aG x c st n) n p) L
 bh:du c (c.map (·.1)) L=some (jQ c L)
theorem sS (c:Cv):∀(L:List Int) (sp:List Int) (y:Int) (s:List Int),du c sp L=some s->y<=bH c s->du c sp (L++[y])=some (dW c s y)
 | [],sp,y,s,h,hy=>by
  rw[pJ] at h
  cases h
  show du c sp (y::[])=_
  rw[ju,aK (by omega),pJ]
 | z::L,sp,y,s,h,hy=>by
  rw[ju] at h
  show du c sp (z::(L++[y]))=_
  rw[ju]
  by_cases e:z>bH c sp
  ·rw[aM e] at h; cases h
  ·rw[aK e] at h ⊢
   exact sS c L _ y s h hy
theorem SM {a b:En} (h:a.key=b.key):a.st=b.st/\a.sp=b.sp:=by
 unfold En.key ph at h
 injection h with h
 injection h with h1 h2
 injection h2 with h2 _
 have hs:PyData.eqv (iJ a.st) (iJ b.st)=true:=by rw[h1]; exact SeqAt.eqv_refl _ (Ra b.st).2.1
 refine⟨(WQ _ _).mp hs,?_⟩
 injection h2 with h2
 exact(List.map_inj_right (fun a b e=>by injection e)).mp h2
theorem Jr.nil {n:Nat} (hn:(aG x c st n).length=n):Jr x c st n [] 0:=by
 have h0:0<n:=by have:=tY (x:=x) (cv:=c) (st:=st) n; omega
 obtain⟨r,hr⟩:=jt (x:=x) (cv:=c) (st:=st) 0 n
 rw[sy] at hr
 have e:cC (aG x c st n) 0=⟨dB x st,c.map (·.1),none⟩:=by rw[hr,jx (by simp[aG])]; rfl
 exact⟨h0,by rw[e]; rfl,by rw[e]; rfl,.inl rn,rfl⟩
theorem O_ {Pr:Nat->Prop}:∀n,Pr n->∃m,m<=n/\Pr m/\∀j,j<m->¬Pr j:=fun n=>by
 induction n using Nat.strongRecOn with
 | _ n ih=>
  intro h
  by_cases z:∃j,j<n/\Pr j
  ·obtain⟨j,hj,pj⟩:=z
   obtain⟨m,h1,h2,h3⟩:=ih j hj pj
   exact⟨m,by omega,h2,h3⟩
  ·exact⟨n,cW _,h,fun j hj pj=>z ⟨j,hj,pj⟩⟩
theorem Jr.ZK {n p cc:Nat} {L:List Int} (hx:kh x) (hN:Bm x) (hs:fu st) (W:Jr x c st n L p) :
  (jZ x (cM x st L) cc).w=(Eh x (cC (aG x c st n) p) cc).w/\(cc:Int)-dF x (cM x st L) cc=Ei x (cC (aG x c st n) p) cc/\dB x (jZ x (cM x st L) cc)=Eh x (cC (aG x c st n) p) cc:=by
 have g:=P_ hN (nF hx hs) (Af (nF hx hs)) (KJ x (cM x st L)).symm cc 12
 have e:=W.es
 have h3:dB x (jZ x (cM x st L) cc)=Eh x (cC (aG x c st n) p) cc:=by
  show _=dB x (jZ x (cC (aG x c st n) p).st cc)
  rw[e]
  exact g.2.2.2
 refine⟨?_,?_,h3⟩
 ·have h:=jl cD.w h3
  exact h
 ·show _=(cc:Int)-dF x (cC (aG x c st n) p).st cc
  rw[e,<- g.1]
theorem Jr.step {n p cc:Nat} {L:List Int} (hx:kh x) (hN:Bm x) (hs:fu st) (hn:(aG x c st n).length=n) (W:Jr x c st n L p) (hc:cc<km c (cC (aG x c st n) p)):∃p',Jr x c st n (L++[(cc:Int)]) p':=by
 have hin:=Gr (q:=p) hn W.hp hc
 obtain⟨e,he,hk⟩:=g_.mp hin
 obtain⟨i,hi⟩:=Cm.mp he
 have hil:i<(aG x c st n).length:=(fK.mp hi).1
 have hie:(cC (aG x c st n) i).key=(oX x c (cC (aG x c st n) p) p cc).key:=by
  have:=(jw hil).2
  rw[hi] at this
  injection this with this
  rw[<- this]
  exact hk
 obtain⟨m,m1,m2,m3⟩:=O_ (Pr:=fun i=>(cC (aG x c st n) i).key=(oX x c (cC (aG x c st n) p) p cc).key) i hie
 obtain⟨h1,h2⟩:=SM m2
 obtain⟨hpo,hpe⟩:=Ag hn W.hp
 have hB:=(W.ZK (cc:=cc) hx hN hs).2.2
 refine⟨m,by omega,?_,?_,?_,?_⟩
 ·rw[h1,jM,hB]
  rfl
 ·rw[h2,pQ,<- W.ss]
  rfl
 ·by_cases m0:m=0
  ·subst m0
   rw[rn]
   exact .inr (.inl (by simp))
  ·obtain⟨q,c',a1,a2,a3,a4,a5⟩:=qw (x:=x) (c:=c) (st:=st) n m (by omega) (by omega)
   obtain⟨r1,r2⟩:=rA hn (by omega) a3
   rw[r2]
   have no:¬wL p cc q c':=fun l=>by
    have hc':cc<km c (cC (aG x c st p) p):=by rw[<- hpe]; exact hc
    have abw:=zU (x:=x) (c:=c) (st:=st) p (cc+1) cc (by omega)
    obtain⟨e2,he2,hk2⟩:=g_.mp abw
    obtain⟨j,hj⟩:=Cm.mp he2
    have hjl:j<(bL x c st p (cc+1)).length:=(fK.mp hj).1
    have hlt:(bL x c st p (cc+1)).length<=m:=by
     rw[a4]
     rcases l with l | ⟨rfl,l⟩
     ·have k1:=zT hpo (show cc+1<=_ from hc')
      have k2:=mZ (x:=x) (cv:=c) (st:=st) (show p+1<=q from l)
      have k3:=nO (x:=x) (cv:=c) (st:=st) (p:=q) (c:=c')
      omega
     ·exact vp (by omega)
    obtain⟨r,hr⟩:=Oi hn hpo (show cc+1<=_ from hc')
    refine m3 j (by omega) ?_
    have:(aG x c st n)[j]?=some e2:=by rw[hr,Cw hjl,hj]
    have h6:=(jw (es:=aG x c st n) (p:=j) (jV hjl (nR hlt (nR m1 (iz hil))))).2
    rw[this] at h6
    injection h6 with h6
    rw[<- h6,hk2,hpe]
   have le1:LQ (bU (aG x c st n) n q++[(c':Int)]) (bU (aG x c st n) n p++[(cc:Int)]):=by
    by_cases z:wL q c' p cc
    ·exact .inr (Du hn W.hp z)
    ·have e:q=p/\c'=cc:=by unfold wL at no z; omega
     rw[e.1,e.2]
     exact .inl rfl
   exact le1.trans (W.le.snoc _)
 ·rw[pQ]
  refine sS c L _ _ _ W.bh ?_
  rw[<- W.ss]
  unfold km at hc
  omega
theorem Jr.told {n p cc bp bc:Nat} {L:List Int} {b lim:Int} (hn:(aG x c st n).length=n) (W:Jr x c st n L p) (hc:cc<km c (cC (aG x c st n) p)) (hk:Bb x (some b) (cC (aG x c st n) p) cc=true) (Bk:wO x c st (some b) lim bp bc):Uz (L++[(cc:Int)]) (GQ x c st bp bc)=false:=by
 obtain⟨hpo,hpe⟩:=Ag hn W.hp
 rw[hpe] at hc hk
 have no:¬wL p cc bp bc:=fun l=>by
  have:=Bk.hb p cc l hpo hc
  rw[hk] at this
  cases this
 have le1:LQ (GQ x c st bp bc) (bU (aG x c st n) n p++[(cc:Int)]):=by
  rw[Qz hn Bk]
  by_cases z:wL bp bc p cc
  ·exact .inr (Du hn W.hp z)
  ·have e:bp=p/\bc=cc:=by unfold wL at no z; omega
   rw[e.1,e.2]
   exact .inl rfl
 exact(le1.trans (W.le.snoc _)).no
theorem Jr.kept {n p cc:Nat} {L:List Int} {b lim:Int} (W:Jr x c st n L p) (hc:cc<km c (cC (aG x c st n) p)) (D:eG x c st (some b) lim n):Bb x (some b) (cC (aG x c st n) p) cc=false:=by
 obtain⟨hpo,hpe⟩:=Ag D.hn W.hp
 rw[hpe] at hc ⊢
 exact D.hb p cc (.inl W.hp) hpo hc
end
variable {aQ aW:Addr}
def M7:Sp:=fun vs H Q _=>∃(v u cv:V) (x:cF) (st:cD) (c:Cv),vs=[v,u,cv]/\At H (iD x) v/\At H (iJ st) u/\At H (yN c) cv/\kh x/\Bm x/\fu st/\El c/\bH c (c.map (·.1))<=23 /\
 (∀n,eG x c st none 200 n->∀l ys H',aC H H'->H l=none->H' l=some (.lst ys)->aj H' ((aG x c st n).map fM) ys->Q (.ref l) H') /\
 (∀H',aC H H'->Q .non H')
theorem BW:aR ["_law_post","_law_stand","_law_curve_here","_law_found"] ["_law_post","_law_stand","_law_curve_here"] (aH zH):=(by walk_at "c")
theorem Oq (F:jk K "_law_led" "_law_led" zH f fd) (B:Bi mg) (Z:ZL K mg aQ aW) (qJ:L_ P w K mg base k "led" ["post","stand","curve","limit"] 300 (Hg aQ aW)):bM P w K mg base iH (k+1) f fd ["_law_post","_law_stand","_law_curve_here"] M7:=by
 refine F.ok BW (by rintro vs H Q E ⟨v,u,cv,x,st,c,rfl,_⟩; rfl) (fun cdv A outer s H vs Q E hr h=>?_)
 obtain⟨v,u,cv,x,st,c,rfl,a1,a2,a3,hx,hn,hs,hv,hW,q1,q2⟩:=h
 have ND:=BW.nd
 refine⟨_,(aq (a_ (i:=3) ND rfl (by walk_at "o") dU) (aq (RD (K:=K) rfl (NK (RC (i:=3) ND (RB qJ.all hr (aa (pv 0) (aa (pv 1) (aa (pv 2) (aa ao ak))))))) (fun e=>(aJ (a_ (i:=3) ND rfl (by walk_at "o") dU))) Z.Js) (aJ (aV (pv 3))))),?_⟩
 walk_at "rd"
 unfold Ue
 walk_at "rd"
 exact⟨v,u,cv,x,st,c,200,rfl,a1,a2,a3,hx,hn,hs,hv,by decide,by decide,fun hW'=>absurd hW (by omega),fun _ n D l ys H' s' f' e' A'=>q1 n D l ys H' s' f' e' A',fun _ p cc M H' sE=>⟨Z.Gq,fun a H3 s3 hX=>q2 H3 (s3 sE)⟩⟩
theorem n_:aR ["_law_curve_here","_law_lefts","_law_come"] ["_law_curve_here","_law_lefts","_law_come"] (aH kI):=(by walk_at "c")
theorem xj (F:jk K "_law_lefts_on" "_law_lefts_on" kI f fd) (B:Bi mg):bM P w K mg base iH (k+1) f fd ["_law_curve_here","_law_lefts","_law_come"] ur:=by
 refine F.ok n_ (by rintro vs H Q E ⟨v,c,q,sp,x,rfl,_⟩; rfl) (fun cdv A outer s H vs Q E hr h=>?_)
 obtain⟨v,c,qa,sp,x,rfl,hv,hq,hsp,hn,q⟩:=h
 have ND:=n_.nd
 refine⟨_,(aJ (aV (pt (cz) B.tuple cT (aa (eQ (nt:=2) (N':=["_law_pair","_law_left","_law_come"]) (js:=[2]) rfl (qg (K:=K) rfl B.zip (aa (pv 0) (aa (pv 1) ak))) kj.of (fun fp s' H'=>(bJ (K:=K) (n:=2) rfl rfl (aD (aF (i:=0) (by show List.Nodup (["_law_pair","_law_left","_law_come"]:List Str); decide) rfl (.inl (iK rfl)) (.inr (iK rfl))) (aD (aF (i:=1) (by show List.Nodup (["_law_pair","_law_left","_law_come"]:List Str); decide) rfl (.inl (iK rfl)) (.inr (iK rfl))) bI)))) (fun fp s' H'=>gQ) (fun fp s' H'=>(pb (dZ rfl) B.min ji (aa (bz aU (pv 0) ao (fun _ _=>rfl)) (aa (aZ iu (aZ bN (pv 1) (bz aU (pv 0) ao (fun _ _=>rfl))) (pv 2)) ak))))) ak)))),?_⟩
 obtain⟨a,xs,rfl,h1,h2⟩:=bB hv
 walk_at "rd"
 have hlen:xs.length=c.length:=by rw[h2.length,bR]
 have zl:(dW c sp x).length=c.length:=by unfold dW; rw[wZ]; omega
 refine nQ (es:=(dW c sp x).map PyData.int) (fun i=>[some (xs.getD i .non),some (.int (sp.getD i 0))]) (fun i=>rfl) (fun R hR=>?_) h1 hq (by rw[bR,zl,hlen]) (by rw[bR,bR,zl,hsp]) (by rw[bR,zl]; exact iz (bj (by omega))) (jY _) (fun i y y' p H' hx hy s' hp R hR=>?_) (fun i e' H' he s' R hR=>?_) fun acc zz H' s' hacc hl hA=>?_
 ·walk_at "rd"; exact hR
 ·obtain⟨hi2,rfl⟩:=ints_get hy
  refine⟨p,_,rfl,cA.of hp,rfl,?_⟩
  walk_at "rd"
  rw[iB (l:=xs),hx] at hR
  exact hR
 ·obtain⟨hi,rfl⟩:=iR he
  simp only[bO,kW,yj,HN,Cp,Hu]
  walk_at "rd"
  rw[zl] at hi
  have hxi:xs[i]?=some (xs.getD i .non):=by rw[iB,eV (by omega)]; rfl
  obtain⟨b,eb,_,hb⟩:=rK h2 hxi
  rw[eb]
  refine Ix.tup (s' _ _ hb) (v:=.int (c.getD i (0,0)).1) rfl (Ix.tup (s' _ _ hb) (v:=.int (c.getD i (0,0)).2) rfl ⟨_,_,rfl,rfl,_,_,rfl,hR _ _ (aC.refl _) ?_⟩)
  unfold dW
  rw[zf _ hi (by omega)]
  exact At.int _
 ·cases cg hA
  refine⟨acc,_,rfl,hl,fun l hl3=>?_⟩
  exact q l _ (s'.trans (aO hl3 _)) az
structure pL (x:cF) (c:Cv) (st:cD) (n:Nat) (H:Hp) (ys:List V):Prop where
 r:∀y∈ys,∃(t q r:Addr) (b:Int) (w:V),y=.ref t/\H t=some (.tup [.int b,.ref q])/\H q=some (.tup [w,.ref r])/\((w=.str "kept" /\ eG x c st (some b) 200 n)\/(w=.str "broken" /\ ∃bp bc,wO x c st (some b) 200 bp bc/\H r=some (.lst ((GQ x c st bp bc).map V.int))))
theorem pL.mono {x:cF} {c:Cv} {st:cD} {n:Nat} {H H':Hp} {ys:List V} (h:pL x c st n H ys) (s:aC H H'):pL x c st n H' ys:=⟨fun y hy=>by
 obtain⟨t,q,r,b,w,e1,e2,e3,e4⟩:=h.r y hy
 refine⟨t,q,r,b,w,e1,s _ _ e2,s _ _ e3,?_⟩
 rcases e4 with e4 | ⟨e4,bp,bc,B,e5⟩
 ·exact .inl e4
 ·exact .inr ⟨e4,bp,bc,B,s _ _ e5⟩⟩
def Ff:Sp:=fun vs H Q _=>∃(a:Addr) (as:List Addr) (n m N:Nat) (v u cv:V) (l:Addr) (ys:List V) (x:cF) (st:cD) (c:Cv),vs=[.ref a,v,u,cv,.ref l]/\a∈as/\as.Nodup/\pK H as N/\Tp H a m/\m<=100000000/\m<=N/\At (dC as H) (iD x) v/\At (dC as H) (iJ st) u/\At (dC as H) (yN c) cv/\W8 x/\Bm x/\fu st/\El c/\bH c (c.map (·.1))<=23/\dC as H l=some (.lst ys)/\aj (dC as H) ((aG x c st n).map fM) ys/\eG x c st none 200 n /\
 ∀r zs H',pK H' as (N+1)->lJ as H H'->H r=none->H' r=some (.lst zs)->zs.length<=5->pL x c st n (dC as H') zs->Q (.ref r) H'
theorem rT:aR ["_law_tape_here","_law_post","_law_stand","_law_curve_here","_law_entries","_law_most","_law_bounds_here"] ["_law_tape_here","_law_post","_law_stand","_law_curve_here","_law_entries"] (aH oM):=(by walk_at "c")
theorem Dm (F:jk K "_law_bounds" "_law_bounds" oM f fd) (B:Bi mg) (bf:Ct P w K mg base k "_law_draw" ["_law_tape_here","_law_many"] lX) (j_:L_ P w K mg base k "opened" ["post","stand","curve","bound","limit"] 300 (um aQ aW)):bM P w K mg base iH (k+1) f fd ["_law_tape_here","_law_post","_law_stand","_law_curve_here","_law_entries"] Ff:=by
 refine F.ok rT (by rintro vs H Q E ⟨a,as,n,m,N,v,u,cv,l,ys,x,st,c,rfl,_⟩; rfl) (fun cdv A outer s H vs Q E hr h=>?_)
 obtain⟨a,as,n,m,N,v,u,cv,l,ys,x,st,c,rfl,haa,nd,tps,tp,hm,hmN,a1,a2,a3,hx,hxn,hs,hv,hW,hl,hA,D,q⟩:=h
 have ND:=rT.nd
 refine⟨_,(aq (a_ (i:=5) ND rfl (by walk_at "o") (pb (yR rfl) B.max lF (aa (gP (N':=["_law_entry"]) (js:=[]) rfl (h_ (K:=K) rfl (pv 4)) tO.mk0 rfl (by decide) rfl (fun fp s' H'=>(bz aU (bz aU (pv 0) ao (fun _ _=>rfl)) ao (fun _ _=>rfl)))) ak))) (aq (a_ (i:=6) ND rfl (by walk_at "o") (cX (aa ao (aa (pv 5) (aa (pb (iT rfl) B.max lF (aa ao (aa (aZ iu (pv 5) ao) ak))) (aa (pf bf hr (aa (pv 0) (aa (aZ bN (bz aU (pv 1) ao (fun _ _=>rfl)) ao) ak))) (aa (aZ FT ao ao) ak))))))) (aJ (aV (gP (N':=["_law_bound","_law_post","_law_stand","_law_curve_here"]) (js:=[1,2,3]) rfl (h_ (K:=K) rfl (pv 6)) tO.mk3 rfl (by decide) rfl (fun fp s' H'=>(aY (aa (pv 0) (aa (pf j_.all.calm hr (aa (pv 1) (aa (pv 2) (aa (pv 3) (aa (pv 0) (aa ao ak)))))) ak))))))))),?_⟩
 have hel:(aG x c st n).length<=900:=by rw[D.hn]; have:=D.hl; omega
 have hne:aG x c st n≠[]:=fun z=>by have:=tY (x:=x) (cv:=c) (st:=st) n; rw[z] at this; simp at this
 have hyl:ys.length=(aG x c st n).length:=by rw[hA.length,bR]
 have hl0:=aP _ _ hl
 have hA0:=hA.mono aP
 walk_at "rd"
 show gq _ _ _ _ _ _
 refine An (es:=(c7 (aG x c st n)).map PyData.int) (fun R hR=>by walk_at "rd"; exact hR) hl0 (by rw[bR,c7,bR,hyl]) (iz (bj (by rw[bR,c7,bR]; omega))) (cu.mpr fun d hd=>by obtain⟨i,_,rfl⟩:=g_.mp hd; rfl) (fun i y e H2 hi he s2 R hR=>?_) (fun acc zs H2 s2 f2 e2 A2=>?_)
 ·have hil:i<(aG x c st n).length:=by rw[<- hyl]; exact(fK.mp hi).1
  obtain⟨y',y1,y2⟩:=lH hA0 hil
  rw[hi] at y1
  cases y1
  obtain⟨ea,v1,p2,v3,v4,rfl,g1,g2,_,_⟩:=jf y2
  obtain⟨sa,sb,sc,rfl,k1,_⟩:=gA g2
  walk_at "rd"
  refine Ix.tup (s2 _ _ g1) (v:=.ref sa) rfl (Ix.tup (s2 _ _ k1) (v:=.int (cC (aG x c st n) i).st.w) rfl (hR _ _ (aC.refl _) ?_))
  have:e=.int (cC (aG x c st n) i).st.w:=by
   rw[g8,c7,g8,eV hil] at he
   cases he
   unfold cC
   rw[iB,eV hil]
   rfl
  rw[this]
  exact At.int _
 cases cg A2
 have hm:∃b r,c7 (aG x c st n)=b::r:=by
  cases e:c7 (aG x c st n) with
  | nil=>exact absurd (List.map_eq_nil_iff.mp e) hne
  | cons b r=>exact⟨b,r,rfl⟩
 obtain⟨b,r,h1⟩:=hm
 have a1':=(a1.mono aP).mono s2
 obtain⟨pa,pb,pcc,pd,rfl,m1,_⟩:=vf a1'
 refine⟨acc,b,r,rfl,by rw[e2,h1]; rfl,Ix.tup m1 (v:=.int x.m) rfl ⟨_,_,rfl,rfl,?_⟩⟩
 have hxm:=hx.m
 refine fP.of (tp.same s2) (by omega) (by have:=hxm.1; omega) (by have:=hxm.2; omega) fun y8 H8 l8 u8 t8 s8=>⟨⟨by decide,by decide,by decide⟩,(by decide),fun pl H9 f9 s9 e9=>?_⟩
 obtain⟨bs,hbs,hbl⟩:∃bs:List Int,H9 pl=some (.lst (bs.map V.int))/\bs.length=5:=⟨[0,dJ b r,_,y8,_],e9,rfl⟩
 have Z4:lJ as H H9:=(lJ.of s2).trans ((lJ.one haa s8).trans (lJ.of s9))
 have t9:pK H9 as (N+1):=((tps.same s2).draw s8 t8 (by omega) (by omega)).same s9
 have b1:=a1.mono Z4.hid
 have b2:=a2.mono Z4.hid
 have b3:=a3.mono Z4.hid
 have x0:∀z,H9 z=none->H z=none:=fun z hz=>by
  cases e:H z with
  | none=>rfl
  | some o=>
   have:=(lJ.of (as:=[a]) s2).trans ((lJ.one (as:=[a]) jo s8).trans (lJ.of s9)) z o (fun y=>by
    rw[fj.mp y] at hz
    obtain⟨_,_,⟨_,_,_,e',_⟩⟩:=t9.tp a haa
    rw[hz] at e'; cases e') e
   rw[hz] at this; cases this
 show gq _ _ _ _ _ _
 refine Th (fun R hR=>by walk_at "rd"; exact hR) hbs (iz (bj (by rw[bR]; omega))) fun acc hacc=>?_
 have Wj:acc∉as:=t9.new hacc
 refine⟨fun i ys H'=>ys.length=i/\H' acc=some (.lst ys)/\aC H9 H'/\pL x c st n (dC (acc::as) H') ys,⟨rfl,az,aO hacc _,⟨fun y hy=>by cases hy⟩⟩,fun i ys H' hi hh=>?_,fun i y ys H' hy hh R hR=>?_,fun ys H' hh=>?_⟩
 ·obtain⟨k1,k2,k3,k4⟩:=hh
  exact⟨k1,k3 _ _ hbs,k2⟩
 ·obtain⟨k1,k2,k3,k4⟩:=hh
  rw[g8] at hy
  obtain⟨bb,hbb,rfl⟩:=nY.mp hy
  simp only[bO,kW,yj,HN,Cp,Hu]
  walk_at "rd"
  have t':=t9.same k3
  have row:∀H5 (t5 q' r':Addr) (w:V),aC H' H5->H5 t5=some (.tup [.int bb,.ref q'])->H5 q'=some (.tup [w,.ref r'])->((w=.str "kept" /\ eG x c st (some bb) 200 n)\/(w=.str "broken" /\ H' r'=none/\∃bp bc,wO x c st (some bb) 200 bp bc/\H5 r'=some (.lst ((GQ x c st bp bc).map V.int))))->R (.ref t5) H5:=fun H5 t5 q' r' w s5 et eq hw=>by
   have t5':=t'.same s5
   have e5:=s5 _ _ k2
   have n1:t5∉acc::as:=fun z=>by
    rcases b8.mp z with z | z
    ·rw[z,e5] at et; cases et
    ·exact t5'.out (fun xs y=>by rw[et] at y; cases y) z
   have n2:q'∉acc::as:=fun z=>by
    rcases b8.mp z with z | z
    ·rw[z,e5] at eq; cases eq
    ·exact t5'.out (fun xs y=>by rw[eq] at y; cases y) z
   refine hR _ _ e5 ⟨by rw[gD,k1]; rfl,az,(k3.trans s5).dw hacc,⟨fun y hy=>?_⟩⟩
   rw[PL jo]
   rcases oV.mp hy with z | z
   ·exact(k4.mono (lJ.of s5).hid).r y z
   ·rw[fj.mp z]
    refine⟨t5,q',r',bb,w,rfl,by rw[cY n1]; exact et,by rw[cY n2]; exact eq,?_⟩
    rcases hw with hw | ⟨hw,fr,bp,bc,B,er⟩
    ·exact .inl hw
    ·refine .inr ⟨hw,bp,bc,B,?_⟩
     rw[cY (fun z=>by
      rcases b8.mp z with z | z
      ·rw[z,k2] at fr; cases fr
      ·exact t'.new fr z)]
     exact er
  have c1:=((b1.mono aP).mono k3)
  have c2:=((b2.mono aP).mono k3)
  have c3:=((b3.mono aP).mono k3)
  refine⟨_,_,_,x,st,c,bb,200,rfl,c1,c2,c3,hx.is,hxn,hs,hv,by decide,by decide,fun hW'=>absurd hW (by omega),fun _ n' D' q' l' ys' H4 s4 f4 e4 el4 A4=>?_,fun _ bp bc Bk q' r' H4 s4 f4 e4 er4=>?_,fun _ p' cc M=>absurd (ql D M (.inl (by decide))) id⟩
  ·cases done_one D'.hn D.hn
   exact⟨(by decide),fun t5 H5 f5 s5 e5=>row H5 t5 q' l' _ (s4.trans s5) e5 (s5 _ _ e4) (.inl ⟨rfl,D'⟩)⟩
  ·exact⟨(by decide),fun t5 H5 f5 s5 e5=>row H5 t5 q' r' _ (s4.trans s5) e5 (s5 _ _ e4) (.inr ⟨rfl,f4,bp,bc,Bk,s5 _ _ er4⟩)⟩
 ·obtain⟨k1,k2,k3,k4⟩:=hh
  exact q acc ys H' (t9.same k3) (Z4.trans (lJ.of k3)) (x0 _ hacc) k2 (by rw[k1,bR]; omega) (k4.mono K4)
theorem S6 {a b:Bool} {X Y:Prop}:(if a=true then X else if b=true then X else Y)=(if(a || b)=true then X else Y):=by cases a <;> cases b <;> rfl
def Us:Sp:=fun vs H Q _=>∃(rl ld:Addr) (lv u:V) (ys:List V) (x:cF) (c:Cv) (st:cD) (n p cc:Nat) (L:List Int),vs=[.ref rl,lv,u,.int ((cc:Int)-dF x (cM x st L) cc),.ref ld]/\kh x/\Bm x/\fu st/\(aG x c st n).length=n/\Jr x c st n L p/\cc<km c (cC (aG x c st n) p)/\At H (iJ (jZ x (cM x st L) cc)) u/\H rl=some (.lst ys)/\ys.length<=5/\pL x c st n H ys/\H ld=some (.lst ((L++[(cc:Int)]).map V.int))/\(lv=.non\/∃b,lv=.int b/\eG x c st (some b) 200 n) /\
 ∀H',aC H H'->Q (.bl true) H'
theorem lN:aR ["_law_rows","_law_least","_law_behind","_law_away","_law_load","_law_bound","_law_word","_law_told"] ["_law_rows","_law_least","_law_behind","_law_away","_law_load"] (aH iY):=(by walk_at "c")
theorem sZ (F:jk K "_law_beat_right" "_law_beat_right" iY f fd) (B:Bi mg):bM P w K mg base iH (k+1) f fd ["_law_rows","_law_least","_law_behind","_law_away","_law_load"] Us:=by
 refine F.ok lN (by rintro vs H Q E ⟨rl,ld,lv,u,ys,x,c,st,n,p,cc,L,rfl,_⟩; rfl) (fun cdv A outer s H vs Q E hr h=>?_)
 obtain⟨rl,ld,lv,u,ys,x,c,st,n,p,cc,L,rfl,hx,hxn,hs,hn,W,hc,a1,hrl,hyl,hR,Wz,Zm,q⟩:=h
 have ND:=lN.nd
 refine⟨_,(aq (dG (PW.pt (u_ (bw qi (pv 1) dU (bA _)) (qe (PW.pt (CZ (bw lO (pv 3) ao (bA _)) (uZ (bw lO (bz aU (pv 2) ao (fun _ _=>rfl)) (pv 1) (bA _)))))))) (aJ (aV mR)) bT) (aq (oW PassesOwn.never rfl (h_ (K:=K) rfl (pv 0)) (bJ (K:=K) (n:=2) rfl rfl (aD (aF (i:=5) ND rfl (by walk_at "o")) (aD (bJ (K:=K) (n:=2) rfl rfl (aD (aF (i:=6) ND rfl (by walk_at "o")) (aD (aF (i:=7) ND rfl (by walk_at "o")) bI))) bI))) (aJ (dG (PW.pt (CZ (bw lO (bz aU (pv 2) ao (fun _ _=>rfl)) (pv 5) (bA _)) (uZ (bw lO (pv 3) ao (bA _))))) (aJ (dG (PW.pt (CZ (bw U0 (pv 6) fX (bA _)) (uZ (bw (Wa hr.units) (aY (aa (pb (d7 (K:=K) rfl) B.len lG (aa (pv 7) ak)) (aa (pv 7) ak))) (aY (aa (pb (d7 (K:=K) rfl) B.len lG (aa (pv 4) ak)) (aa (pv 4) ak))) (bA _))))) (aJ (aV mR)) bT)) bT))) (aJ (aV mR)))),?_⟩
 obtain⟨w1,w2,_⟩:=W.ZK (cc:=cc) hx hxn hs
 obtain⟨sa,sb,sc,rfl,k1,_⟩:=gA a1
 have eb:∀b,Bb x (some b) (cC (aG x c st n) p) cc=(decide (b<(jZ x (cM x st L) cc).w) || decide (0<(cc:Int)-dF x (cM x st L) cc)):=fun b=>by
  rw[w1,w2]; rfl
 generalize (jZ x (cM x st L) cc).w=ww at k1 eb
 generalize (cc:Int)-dF x (cM x st L) cc=aw at eb
 simp only[Nf]
 refine jP.on (fun H1 s1=>?_) fun N hN=>?_
 ·walk_at "rd"
  rw[uf]
  walk_at "rd"
  obtain⟨Pv,hPv⟩:∃Pv:Nat->St->Hp->Prop,∀i σ H',Pv i σ H'↔(∃o5 o6 o7:Option V,σ=[some (.ref rl),some lv,some (.ref sa),some (.int aw),some (.ref ld),o5,o6,o7]/\aC H H'):=⟨_,fun _ _ _=>Iff.rfl⟩
  refine LK.of (s1 _ _ hrl) Pv ((hPv _ _ _).mpr ⟨_,_,_,rfl,s1⟩) (fun i σ H' _ hh=>?_) ?_ ?_
  ·obtain⟨_,_,_,_,s'⟩:=(hPv _ _ _).mp hh
   exact s' _ _ hrl
  ·intro i y σ H2 hy hh
   obtain⟨o5,o6,o7,rfl,s2⟩:=(hPv _ _ _).mp hh
   obtain⟨t,qq,r,b,w,rfl,e1,e2,e3⟩:=hR.r y (jW hy)
   refine⟨t,_,rfl,cA.of (s2 _ _ e1),rfl,?_⟩
   walk_at "rd"
   refine⟨qq,_,rfl,cA.of (s2 _ _ e2),rfl,?_⟩
   walk_at "rd"
   refine Ix.tup (s2 _ _ k1) (v:=.int ww) rfl ⟨_,_,rfl,rfl,?_⟩
   rw[S6,<- eb b]
   cases Va:Bb x (some b) (cC (aG x c st n) p) cc with
   | false=>
    rw[aK (by decide)]
    exact(hPv _ _ _).mpr ⟨_,_,_,rfl,s2⟩
   | true=>
    rw[aM rfl]
    rcases e3 with⟨_,D⟩ | ⟨rfl,bp,bc,Bk,er⟩
    ·rw[W.kept hc D] at Va
     cases Va
    ·simp only[Nk]
     refine⟨_,rfl,?_⟩
     rw[aK (by decide)]
     refine⟨r,_,rfl,.inl (gW.of (s2 _ _ er)),(by decide),fun p7 H7 f7 s7 e7=>?_⟩
     refine⟨ld,_,rfl,.inl (gW.of ((s2.trans s7) _ _ Wz)),(by decide),fun p8 H8 f8 s8 e8=>?_⟩
     refine⟨p7,p8,r,ld,_,_,GQ x c st bp bc,L++[(cc:Int)],rfl,rfl,s8 _ _ e7,e8,(s2.trans (s7.trans s8)) _ _ er,(s2.trans (s7.trans s8)) _ _ Wz,_,rfl,?_⟩
     rw[RP,W.told hn hc Va Bk,aK (by decide)]
     exact(hPv _ _ _).mpr ⟨_,_,_,rfl,s2.trans (s7.trans s8)⟩
  ·intro σ H2 hh
   obtain⟨o5,o6,o7,rfl,s2⟩:=(hPv _ _ _).mp hh
   walk_at "rd"
   exact q H2 s2
 ·walk_at "rd"
  refine⟨trivial,?_⟩
  rcases Zm with rfl | ⟨b,rfl,D⟩
  ·rw[aK (by simp)]
   exact hN H (aC.refl _)
  ·rw[aM (by simp)]
   have h0:=W.kept hc D
   rw[eb] at h0
   simp only[Bool.or_eq_false_iff,decide_eq_false_iff_not] at h0
   rw[aK (by rw[fH h0.2]; decide)]
   refine Ix.tup k1 (v:=.int ww) rfl ⟨_,_,rfl,rfl,?_⟩
   rw[aK (by rw[fH h0.1]; decide)]
   exact hN H (aC.refl _)
variable {aQ aW:Addr}
theorem W0 {K:PySem.W.Frag} {ta:TA} {σ:St} {H:Hp} {R:VK} {c:Cv} {e:En} {w2 ca:Addr} {xs:List V} (hv:El c) (hE:rP c e) (hl:∀R':List V->Hp->Prop,R' [.ref w2,.ref ca] H->ta σ H R') (h3:H w2=some (.tup (e.sp.map V.int))) (hc:H ca=some (.tup xs)) (hA:aj H (c.map RJ) xs)
  (fin:∀acc b r H',aC H H'->H' acc=some (.lst (V.int b::List.map V.int r))->(1+jc b r:Int)=((km c e:Nat):Int)->R (.ref acc) H'):gw 3 [] (IK K ta) (Gj K 2 (je (d8 0) (je (Gj K 2 (je (d8 1) (je (d8 2) xr))) xr))) qR (Uk (Ry fun i j=>V.int (i+j)) (ue 0) (ue 2)) σ H R:=by
 have lxs:xs.length=c.length:=by rw[hA.length,bR]
 have ln:=hv.n
 have Xu:(List.zipWith (fun p l=>p.2+l) c e.sp).length=c.length:=by rw[wZ,hE.sl]; omega
 refine nQ (es:=(List.zipWith (fun p l=>p.2+l) c e.sp).map PyData.int) (fun i=>[some (.int (e.sp.getD i 0)),some (.int (c.getD i (0,0)).1),some (.int (c.getD i (0,0)).2)]) (fun i=>rfl) hl h3 hc (by rw[bR,bR,Xu,hE.sl]) (by rw[bR,Xu,lxs]) (by rw[bR,Xu]; exact iz (bj (by omega))) (jY _) (fun i y y' q H' hy hy' s' hq R hR=>?_) (fun i e' H' he s' R hR=>?_) fun acc zz H8 s8 hacc hl hAA=>?_
 ·obtain⟨hi2,rfl⟩:=ints_get hy
  obtain⟨b,rfl,hi,hb⟩:=rK hA hy'
  refine⟨q,_,rfl,cA.of hq,rfl,?_⟩
  walk_at "rd"
  refine⟨b,_,rfl,cA.of (s' _ _ hb),rfl,?_⟩
  walk_at "rd"
  exact hR
 ·obtain⟨hi,rfl⟩:=iR he
  walk_at "rd"
  refine hR _ _ (aC.refl _) ?_
  rw[Xu] at hi
  rw[zf _ hi (by rw[hE.sl]; exact hi),Int.add_comm]
  exact At.int _
 cases cg hAA
 have hm0:=Ac hv hE.sl hE.nn
 obtain⟨b,r,hbr⟩:∃b r,List.zipWith (fun(p:Int×Int) (l:Int)=>p.2+l) c e.sp=b::r:=by
  cases hzz:List.zipWith (fun(p:Int×Int) (l:Int)=>p.2+l) c e.sp with
  | nil=>rw[hzz] at Xu; exact absurd (Nu.mp Xu.symm) hv.ne
  | cons b r=>exact⟨b,r,rfl⟩
 have hmi:bH c e.sp=jc b r:=by unfold bH; rw[hbr]; rfl
 rw[hbr] at hl
 refine fin acc b r H8 s8 hl ?_
 rw[hmi] at hm0
 unfold km
 rw[hmi]
 omega
theorem Hb (is:List Int):PyData.hasDict (.tuple (is.map .int))=false/\PyData.canLay0 (.tuple (is.map .int))=true/\PyData.depth (.tuple (is.map .int))<=60:=by
 obtain⟨d1,d2,d3⟩:=iQ is
 exact⟨by simpa[PyData.hasDict] using d1,by simpa[PyData.canLay0] using d2,by show PyData.depthAll _+1<=60; rw[d3]; decide⟩
theorem aaO {A:TA} {b:TS}:Mx (Q8 6 7 A) b=jP (Q8 6 7 A) b:=rfl
def pairD (e:En):PyData:=.tuple [e.key,.bool true]
theorem SJ (e:En):qm e.key=true:=by
 have h1:=pP e.st
 have h2:=m7 e.sp
 unfold En.key ph
 simp only[qm,bF,h1,h2,yp]
theorem Ka (es:List En):bF (es.map pairD)=true:=cu.mpr fun d hd=>by
 obtain⟨e,_,rfl⟩:=g_.mp hd
 have:=SJ e
 unfold pairD
 simp only[qm,bF,this,yp]
theorem C_:∀(kvs acc:List (PyData×V)) (d:PyData),(gf (putAll acc kvs) d).isSome=true↔(gf acc d).isSome=true\/d∈kvs.map (·.1)
 | [],acc,d=>by simp[putAll]
 | kv::kvs,acc,d=>by
  show(gf (putAll (putK acc kv.1 kv.2) kvs) d).isSome=true↔_
  rw[C_ kvs,Mi,kW,b8]
  by_cases e:d=kv.1
  ·rw[aM e]; simp[e]
  ·rw[aK e]; simp[e]
def Yx:Sp:=fun vs H Q _=>∃(T:Addr) (as:List Addr) (n N:Nat) (v u cv:V) (l:Addr) (ys:List V) (x:cF) (st:cD) (c:Cv),vs=[.ref T,v,u,cv,.ref l]/\H T=some (.lst (as.map V.ref))/\T∉as/\as≠[]/\as.length<=63/\as.Nodup/\pK H as N/\N<=1000000/\At (dC as H) (iD x) v/\At (dC as H) (iJ st) u/\At (dC as H) (yN c) cv/\W8 x/\Bm x/\fu st/\El c/\bH c (c.map (·.1))<=23/\dC as H l=some (.lst ys)/\aj (dC as H) ((aG x c st n).map fM) ys/\eG x c st none 200 n /\
 ∀H',lJ as H H'->Q (.bl true) H'
theorem lL:aR ["_law_tapes","_law_post","_law_stand","_law_curve_here","_law_entries","_law_met","_law_least","_law_rows","_law_lefts","_law_here","_law_load","_law_turn","_law_most","_law_come","_law_behind","_law_done","_law_away","_law_change"] ["_law_tapes","_law_post","_law_stand","_law_curve_here","_law_entries"] (aH iV):=(by walk_at "c")
theorem sX (F:jk K "_law_walk_right" "_law_walk_right" iV f fd) (B:Bi mg) (bf:Ct P w K mg base k "_law_draw" ["_law_tape_here","_law_many"] lX) (jG:L_ P w K mg base k "least_bound" ["post","stand","curve","limit"] 300 (Hh aQ aW)) (GJ:Ct P w K mg base k "_law_bounds" ["_law_tape_here","_law_post","_law_stand","_law_curve_here","_law_entries"] Ff) (jJ:Ct P w K mg base k "lean" ["post","stand"] uv) (bZ:Ct P w K mg base k "most_next" ["curve","spare"] uo) (rN:Xc P w K mg base k "beat" ["post","stand","come","free"] 12 Fg) (Az:Ct P w K mg base k "_law_lefts_on" ["_law_curve_here","_law_lefts","_law_come"] ur) (wG:Ct P w K mg base k "_law_beat_right" ["_law_rows","_law_least","_law_behind","_law_away","_law_load"] Us) (qI:Ct P w K mg base k "spares" ["curve","load"] BJ) (wA:Ct P w K mg base k "within" ["curve","load"] Bw):bM P w K mg base iH (k+1) f fd ["_law_tapes","_law_post","_law_stand","_law_curve_here","_law_entries"] Yx:=by
 refine F.ok lL (by rintro vs H Q E ⟨T,as,n,N,v,u,cv,l,ys,x,st,c,rfl,_⟩; rfl) (fun cdv A outer s H vs Q E hr h=>?_)
 obtain⟨T,as,n,N,v,u,cv,l,ys,x,st,c,rfl,hT,nT,has,hal,nd,tps,hN,a1,a2,a3,hx,hxn,hs,hv,hW,hl,hA,D,q⟩:=h
 have ND:=lL.nd
 refine⟨_,(aq (a_ (i:=5) ND rfl (by walk_at "o") (pt (GD hr.units rfl) B.dict Tt (aa (gP (N':=["_law_entry"]) (js:=[]) rfl (h_ (K:=K) rfl (pv 4)) tO.mk0 rfl (by decide) rfl (fun fp s' H'=>(aY (aa (dR gO (pv 0) fW (eX ao)) (aa mR ak))))) ak))) (aq (vg (i:=6) (j:=7) rfl ND rfl rfl (by decide) rfl rfl (aa (bz aU (pf jG.all.calm hr (aa (pv 1) (aa (pv 2) (aa (pv 3) (aa ao ak))))) ao (fun _ _=>rfl)) (aa (pf GJ hr (aa (bz aU (pv 0) ao (fun _ _=>rfl)) (aa (pv 1) (aa (pv 2) (aa (pv 3) (aa (pv 4) ak)))))) ak)) (by rfl)) (aq (HQ (i:=8) (j:=9) (l:=10) rfl ND rfl rfl rfl rfl rfl rfl (aa (pt (cz) B.tuple cT (aa (eQ (nt:=2) (N':=["_law_burst","_law_rate"]) (js:=[]) rfl (jr (K:=K) rfl (pv 3)) kj.of (fun fp s' H'=>(bJ (K:=K) (n:=2) rfl rfl (aD (aF (i:=0) (by show List.Nodup (["_law_burst","_law_rate"]:List Str); decide) rfl (.inl (iK rfl)) (.inr (iK rfl))) (aD (aF (i:=1) (by show List.Nodup (["_law_burst","_law_rate"]:List Str); decide) rfl (.inl (iK rfl)) (.inr (iK rfl))) bI)))) (fun fp s' H'=>gQ) (fun fp s' H'=>(pv 0))) ak)) (aa (pv 2) (aa (cX ak) ak))) (by rfl)) (aq (oW PassesOwn.never rfl (fB (by rfl) B.range (aa (pb (dZ rfl) B.min ji (aa ao (aa (aZ kY ao (pb (d7 (K:=K) rfl) B.len lG (aa (pv 0) ak))) ak))) ak)) (aF (i:=11) ND rfl (by walk_at "o")) (aq (a_ (i:=12) ND rfl (by walk_at "o") (pb (yQ rfl) B.min ji (aa (eQ (nt:=3) (N':=["_law_left","_law_burst","_law_rate"]) (js:=[]) rfl (qg (K:=K) rfl B.zip (aa (pv 8) (aa (pv 3) ak))) kj.of (fun fp s' H'=>(bJ (K:=K) (n:=2) rfl rfl (aD (aF (i:=0) (by show List.Nodup (["_law_left","_law_burst","_law_rate"]:List Str); decide) rfl (.inl (iK rfl)) (.inr (iK rfl))) (aD (bJ (K:=K) (n:=2) rfl rfl (aD (aF (i:=1) (by show List.Nodup (["_law_left","_law_burst","_law_rate"]:List Str); decide) rfl (.inl (iK rfl)) (.inr (iK rfl))) (aD (aF (i:=2) (by show List.Nodup (["_law_left","_law_burst","_law_rate"]:List Str); decide) rfl (.inl (iK rfl)) (.inr (iK rfl))) bI))) bI)))) (fun fp s' H'=>gQ) (fun fp s' H'=>(aZ bN (pv 0) (pv 2)))) ak))) (aq (dG (PW.pt (CZ (bw (Kd hr.units) (aY (aa (pf jJ hr (aa (pv 1) (aa (pv 9) ak))) (aa (pv 8) ak))) (pv 5) (by with_unfolding_all rfl)) (uZ (bw U0 (pf bZ hr (aa (pv 3) (aa (pv 8) ak))) (pv 12) (bA _))))) (aJ (aV mR)) bT) (aq (a_ (i:=13) ND rfl (by walk_at "o") (pf bf hr (aa (bz aU (pv 0) (aZ kZ (pv 11) (pb (d7 (K:=K) rfl) B.len lG (aa (pv 0) ak))) (fun _ _=>rfl)) (aa (aZ bN (pv 12) ao) ak)))) (aq (dN (pfd rN hr (aa (pv 1) (aa (pv 9) (aa (pv 13) ak)))) (bJ (K:=K) (n:=4) rfl rfl (aD (aF (i:=14) ND rfl (by walk_at "o")) (aD (aF (i:=15) ND rfl (by walk_at "o")) (aD (aF (i:=16) ND rfl (by walk_at "o")) (aD (aF (i:=17) ND rfl (by walk_at "o")) bI)))))) (aq (HQ (i:=8) (j:=9) (l:=10) rfl ND rfl rfl rfl rfl rfl rfl (aa (pf Az hr (aa (pv 3) (aa (pv 8) (aa (pv 13) ak)))) (aa (pv 14) (aa (aZ Om (pv 10) (cX (aa (pv 13) ak))) ak))) (by rfl)) (aq (dG (NB (vd (pf wG hr (aa (pv 7) (aa (pv 6) (aa (pv 14) (aa (pv 16) (aa (pv 10) ak)))))))) (aJ (aV mR)) bT) (aJ (dG (PW.pt (u_ (bw mU (aZ kZ (pv 11) ao) ao (bA _)) (qe (bw (V8 hr.units) (pf qI hr (aa (pv 3) (aa (pv 10) ak))) (pv 8) (bA _))))) (aJ (aV mR)) bT))))))))) (aJ (aV (Og (fY (V_ hr.units) (aY (aa (pf jJ hr (aa (pv 1) (aa (pv 9) ak))) (aa (pv 8) ak))) (pv 5) (by with_unfolding_all rfl)) (Og (fY V9 (pf wA hr (aa (pv 3) (aa (pv 10) ak))) mR (bA _)) (Ob (fY (Ol hr.units) (pf qI hr (aa (pv 3) (aa (pv 10) ak))) (pv 8) (bA _))))))))))),?_⟩
 have hnl:n<=200:=by have:=D.hl; omega
 have hlen:(aG x c st n).length=n:=D.hn
 have hyl:ys.length=n:=by rw[hA.length,bR,hlen]
 have hl0:=aP _ _ hl
 have hA0:=hA.mono aP
 simp only[Nf,aaO]
 walk_at "rd"
 show gq _ _ _ _ _ _
 refine An (es:=(aG x c st n).map pairD) (fun R hR=>by walk_at "rd"; exact hR) hl0 (by rw[bR,hlen,hyl]) (iz (bj (by rw[bR,hlen]; omega))) (Ka _) (fun i y e H2 hi he s2 R hR=>?_) (fun acc zs H1 s1 f1 e1 A1=>?_)
 ·have hil:i<(aG x c st n).length:=by rw[hlen,<- hyl]; exact(fK.mp hi).1
  obtain⟨y',y1,y2⟩:=lH hA0 hil
  rw[hi] at y1
  cases y1
  obtain⟨ea,v1,p2,v3,v4,rfl,g1,g2,g3,_⟩:=jf y2
  walk_at "rd"
  refine⟨ea,_,rfl,s2 _ _ g1,fun p3 H3 s3 e3=>?_⟩
  rw[rM (by decide)] at e3
  refine⟨(by decide),fun p4 H4 f4 s4 e4=>hR _ _ (s3.trans s4) ?_⟩
  have ee:e=pairD (cC (aG x c st n) i):=by
   rw[g8,eV hil] at he
   cases he
   unfold cC
   rw[iB,eV hil]
   rfl
  rw[ee]
  have s24:=s2.trans (s3.trans s4)
  exact At.tup e4 (aj.cons (At.tup (s4 _ _ e3) (aj.cons (g2.mono s24) (aj.cons (At.tup (s24 _ _ g3) (bD _)) aj.nil))) (aj.cons (by unfold At; rfl) aj.nil))
 have hzl:zs.length=n:=by rw[A1.length,bR,hlen]
 refine⟨acc,zs,(aG x c st n).map (fun e=>(e.key,V.bl true)),rfl,e1,by omega,⟨by rw[hzl,bR,hlen],fun i y qq hy hq=>?_⟩,fun m H2 f2 s2 nd2 _=>?_⟩
 ·have A1:=A1.mono gU
  obtain⟨d,hd,ad⟩:=A1.get hy
  rw[g8] at hd hq
  obtain⟨e,he,rfl⟩:=nY.mp hd
  rw[he] at hq
  cases hq
  obtain⟨t,ws,rfl,h1,h2⟩:=bB ad
  obtain⟨w0,_,rfl,b0,h2⟩:=aj.aX h2
  obtain⟨w1,_,rfl,b1,h2⟩:=aj.aX h2
  cases aj.lV h2
  unfold At at b1
  subst b1
  exact⟨t,w0,rfl,h1,o_ _ _,b0⟩
 have s02:=s1.trans s2
 have Vt:=tps.same s02
 have Yb:lJ as H H2:=lJ.of s02
 obtain⟨kvs,nd2,hkv⟩:∃kvs,iy H2 m kvs/\∀d,(gf kvs d).isSome=true↔d∈(aG x c st n).map En.key:=⟨_,nd2,fun d=>by
  rw[C_,List.map_map]
  have e1:(gf ([]:List (PyData×V)) d).isSome=true↔False:=by simp[gf]
  rw[e1,false_or]
  exact Iff.rfl⟩
 obtain⟨R,hR⟩:∃R:St->Hp->Prop,∀σ' G,R σ' G↔(∃(lv:V) (rl:Addr) (zs:List V),σ'=[some (V.ref T),some v,some u,some cv,some (V.ref l),some (V.ref m),some lv,some (.ref rl),none,none,none,none,none,none,none,none,none,none]/\lJ as H2 G/\pK G as (N+1)/\dC as G rl=some (.lst zs)/\zs.length<=5/\pL x c st n (dC as G) zs/\(lv=.non\/∃b,lv=.int b/\eG x c st (some b) 200 n)):=⟨_,fun _ _=>Iff.rfl⟩
 refine jP.of R (fun σ' G hh=>?_) fun N' hN'=>?_
 ·obtain⟨lv,rl,rs,rfl,x2G,tG,hrl,hrs,P0,Zm⟩:=(hR _ _).mp hh
  have Xd:=Yb.trans x2G
  have c1:=a1.mono Xd.hid
  have c2:=a2.mono Xd.hid
  have c3:=a3.mono Xd.hid
  obtain⟨ca,xs,rfl,hc,hcA⟩:=bB c3
  have lxs:xs.length=c.length:=by rw[hcA.length,bR]
  have ln:=hv.n
  walk_at "rd"
  refine Jh (es:=(c.map (·.1)).map PyData.int) (fun i=>[some (.int (c.getD i (0,0)).1),some (.int (c.getD i (0,0)).2)]) (fun i=>rfl) (fun R hR=>?_) (aP _ _ hc) (by rw[bR,bR,lxs]) (by rw[bR,bR]; exact iz (bj (by omega))) (jY _) (fun i x H' hx s' R hR=>?_) (fun i e H' he s' R hR=>?_) (fun acc zs H3 s3 hacc hl3 hA3=>?_)
  ·walk_at "rd"; exact hR
  ·obtain⟨b,rfl,hi,hb⟩:=rK hcA hx
   refine⟨b,_,rfl,cA.of (s' _ _ (aP _ _ hb)),rfl,?_⟩
   walk_at "rd"
   exact hR
  ·obtain⟨hi,rfl⟩:=iR he
   walk_at "rd"
   refine hR _ _ (aC.refl _) ?_
   rw[bR] at hi
   have:(c.map (·.1)).getD i 0=(c.getD i (0,0)).1:=by rw[iB,iB,g8,eV hi]; rfl
   rw[this]
   exact At.int _
  cases cg hA3
  refine⟨acc,_,rfl,hl3,fun l8 f8=>?_⟩
  have s4:=aO f8 (HO.tup ((c.map (·.1)).map V.int))
  have e8:upd H3 l8 (HO.tup ((c.map (·.1)).map V.int)) l8=some (.tup ((c.map (·.1)).map V.int)):=az
  generalize upd H3 l8 (HO.tup ((c.map (·.1)).map V.int))=H4 at s4 e8 ⊢
  refine⟨e_ _,fun p10 H5 WN s5 e10=>⟨_,_,_,rfl,?_⟩⟩
  have sG4:=s3.trans s4
  have Z8:=sG4.trans s5
  have nl8:l8∉as:=(tG.same s3).new f8
  have n10:p10∉as:=(tG.same sG4).new WN
  obtain⟨Pv,hPv⟩:∃Pv:Nat->St->Hp->Prop,∀t σ H',Pv t σ H'↔(∃(lf ld:Addr) (hv':V) (L:List Int) (p:Nat) (QM o12 Xo Xn Xm Xl Xk:Option V),σ=[some (V.ref T),some v,some u,some (.ref ca),some (V.ref l),some (V.ref m),some lv,some (.ref rl),some (.ref lf),some hv',some (.ref ld),QM,o12,Xo,Xn,Xm,Xl,Xk]/\lJ as G H'/\pK H' as (N+1+t)/\L.length=t/\dC as H' lf=some (.tup ((jQ c L).map V.int))/\At (dC as H') (iJ (cM x st L)) hv'/\dC as H' ld=some (.lst (L.map V.int))/\Jr x c st n L p):=⟨_,fun _ _ _=>Iff.rfl⟩
  refine Zw (n:=if 5*as.length<300 then 5*as.length else 300) (fun R hR=>?_) (by split <;> omega) Pv ((hPv _ _ _).mpr ⟨l8,p10,_,[],0,_,_,_,_,_,_,_,rfl,lJ.of Z8,tG.same Z8,rfl,by rw[cY nl8]; exact s5 _ _ e8,c2.mono (lJ.of Z8).hid,by rw[cY n10]; exact e10,Jr.nil hlen⟩) ?_ ?_
  ·have hT5:H5 T=some (.lst (as.map V.ref)):=Z8 _ _ (Xd _ _ nT hT)
   walk_at "rd"
   refine⟨T,_,rfl,.inl (gW.of hT5),_,_,rfl,rfl,.inl ⟨by decide,by decide⟩,?_⟩
   rw[bR]
   have e:(if 5*(as.length:Int)<300 then 5*(as.length:Int) else 300)=((if 5*as.length<300 then 5*as.length else 300:Nat):Int):=by split <;> split <;> omega
   rw[e]
   exact hR
  ·intro t σ G1 ht hh1
   obtain⟨lf,ld,hv',L,p,QM,o12,Xo,Xn,Xm,Xl,Xk,rfl,QL,t1,hLt,Zn,hst,Wz,W⟩:=(hPv _ _ _).mp hh1
   have Xf:=Xd.trans QL
   have d1:=(a1.mono Xf.hid).mono aP
   have hc1:=QL.hid _ _ hc
   have PN:aj G1 (c.map RJ) xs:=(hcA.mono QL.hid).mono aP
   have hp:p<(aG x c st n).length:=by rw[hlen]; exact W.hp
   have hE:=Ah hx.is hv hs n _ (jw hp).1
   have hcm:=Vc hE hW
   walk_at "rd"
   refine W0 hv hE (fun R hR=>by walk_at "rd"; exact hR) (by rw[W.ss]; exact aP _ _ Zn) (aP _ _ hc1) PN fun acc b r G2 Xh hl4 Zr=>⟨acc,b,r,rfl,hl4,?_⟩
   have hm0:=Ac hv hE.sl hE.nn
   rw[W.ss] at hm0
   have hmo:jc b r=bH c (jQ c L):=by
    have:=Zr
    unfold km at this
    rw[W.ss] at this
    omega
   rw[hmo]
   have hcL:km c (cC (aG x c st n) p)=(bH c (jQ c L)+1).toNat:=by unfold km; rw[W.ss]
   clear Zr hl4 hmo
   generalize abu:bH c (jQ c L)=mo at hm0 hcL
   have hsW:=nF hx.is hs (l:=L)
   have nd1:iy G1 m kvs:=nd2.sxa Vt (x2G.trans QL)
   have Pz:=aP _ _ Zn
   have Wy:=aP _ _ Wz
   have abp:=hst.mono aP
   have hT1:G1 T=some (.lst (as.map V.ref)):=Xf _ _ nT hT
   have hc1:=aP _ _ hc1
   have Ls:(gf kvs (ph (dB x (cM x st L)) (jQ c L))).isSome=true:=(hkv _).mpr (by
    refine g_.mpr ⟨_,(jw hp).1,?_⟩
    show ph (cC (aG x c st n) p).st (cC (aG x c st n) p).sp=_
    rw[W.es,W.ss])
   refine jP.on (fun G3 YB=>?_) fun N3 hN3=>?_
   ·have uN:=Xh.trans YB
    have abr:0<as.length:=List.length_pos_iff.mpr has
    obtain⟨a,ha⟩:∃a,as[t % as.length]?=some a:=⟨_,eV (Nat.mod_lt _ abr)⟩
    have hma:=jW ha
    have hat:GR (as.map V.ref) ((0+(t:Int)) % (as.length:Int))=some (.ref a):=by
     rw[show(0+(t:Int)) % (as.length:Int)=((t % as.length:Nat):Int) by rw[Int.zero_add]; exact(Int.natCast_emod _ _).symm]
     exact bx (by rw[g8,ha]; rfl)
    have ad8:t<300:=by split at ht <;> omega
    have t3:=t1.same uN
    obtain⟨n0,hn0,tp0⟩:=t3.tp a hma
    walk_at "rd"
    refine⟨T,_,rfl,.inl (gW.of (uN _ _ hT1)),_,_,rfl,rfl,?_⟩
    rw[bR]
    refine⟨by omega,Ix.lst (uN _ _ hT1) hat ?_⟩
    refine fP.of tp0 (by omega) (by omega) (by omega) fun y G4 l4 u4 t4 s4=>?_
    obtain⟨cc,rfl⟩:=Int.eq_ofNat_of_zero_le l4
    have X_:lJ as G1 G4:=(lJ.of uN).trans (lJ.one hma s4)
    have T4:pK G4 as (N+1+(t+1)):=t3.draw s4 t4 (by omega) (by omega)
    have hcc:cc<km c (cC (aG x c st n) p):=by omega
    have x04:=Xf.trans X_
    have xG4:=QL.trans X_
    have d4:=(a1.mono x04.hid).mono aP
    have h4:=(hst.mono X_.hid).mono aP
    have lf4:=aP _ _ (X_.hid _ _ Zn)
    have ld4:=aP _ _ (X_.hid _ _ Wz)
    have ca4:=aP _ _ (xG4.hid _ _ hc)
    have cA4:aj G4 (c.map RJ) xs:=(hcA.mono xG4.hid).mono aP
    obtain⟨p',W'⟩:=W.step hx.is hxn hs hlen hcc
    refine⟨v,hv',x,_,(cc:Int),12,rfl,d4,h4,hx.is,hsW,fun p7 u7 G5 s5 b7 e7=>⟨p7,_,rfl,cA.of e7,rfl,?_⟩⟩
    have b7:At G5 (iJ (jZ x (cM x st L) cc)) u7:=b7
    walk_at "rd"
    refine⟨_,c,lf,jQ c L,(cc:Int),rfl,At.tup (s5 _ _ ca4) (cA4.mono s5),s5 _ _ lf4,by rw[<- W.ss]; exact hE.sl,by omega,fun p8 G6 s6 ZC=>?_⟩
    have VH:=s5.trans s6
    refine⟨(by decide),fun p9 G7 f9 s7 e9=>Nt.of ((VH.trans s7) _ _ ld4) e9 (Zj (by rw[bR]; show _+1<=1000; omega)) fun pA G8 fA s8 eA=>⟨_,_,_,rfl,?_⟩⟩
    have eA:G8 pA=some (.lst ((L++[(cc:Int)]).map V.int)):=by rw[eA,jm]; rfl
    have s48:=VH.trans (s7.trans s8)
    have T8:=T4.same s48
    have nA:pA∉as:=(T4.same (VH.trans s7)).new fA
    have xG8:=xG4.trans (lJ.of s48)
    have n8:p8∉as:=(T4.same VH).out (fun ws z=>by rw[ZC] at z; cases z)
    have sL:(L++[(cc:Int)]).length=t+1:=by rw[gD,hLt]; rfl
    have fin:∀G9,aC G8 G9->∀Xo Xn Xm Xl Xk:Option V,Pv (t+1) [some (V.ref T),some v,some u,some (.ref ca),some (V.ref l),some (V.ref m),some lv,some (.ref rl),some (.ref p8),some u7,some (.ref pA),some (.int (0+(t:Nat))),some (.int mo),Xo,Xn,Xm,Xl,Xk] G9:=fun G9 s9 Xo Xn Xm Xl Xk=>
     (hPv _ _ _).mpr ⟨p8,pA,u7,L++[(cc:Int)],p',_,_,_,_,_,_,_,rfl,xG8.trans (lJ.of s9),T8.same s9,sL,by rw[cY n8,pQ]; exact s9 _ _ (s8 _ _ (s7 _ _ ZC)),by
      rw[jM]
      exact pK.hid nd (T8.same s9) (pP _) (b7.mono (s6.trans (s7.trans (s8.trans s9)))),by rw[cY nA]; exact s9 _ _ eA,W'⟩
    refine jP.on (fun G9 s9=>?_) fun N9 hN9=>?_
    ·walk_at "rd"
     refine⟨by decide,?_⟩
     have s49:=s48.trans s9
     by_cases c25:(0+(t:Int)) % 25=0
     ·rw[aM (iC c25)]
      refine⟨_,c,pA,L++[(cc:Int)],jQ c (L++[(cc:Int)]),rfl,At.tup (s49 _ _ ca4) (cA4.mono s49),s9 _ _ eA,hv.ne,by omega,W'.bh,fun pB GB sB eB=>?_⟩
      obtain⟨y1,y2,y3⟩:=Hb (jQ c (L++[(cc:Int)]))
      have e8B:GB p8=some (.tup ((jQ c (L++[(cc:Int)])).map V.int)):=by rw[pQ]; exact sB _ _ (s9 _ _ (s8 _ _ (s7 _ _ ZC)))
      refine⟨_,_,At.tup eB (bD _),At.tup e8B (bD _),y1,y1,y2,y2,y3,?_⟩
      rw[SeqAt.eqv_refl _ y2,aK (by decide)]
      exact fin GB (s9.trans sB) _ _ _ _ _
     ·rw[aK (by rw[fH c25]; decide)]
      exact fin G9 s9 _ _ _ _ _
    ·walk_at "rd"
     refine⟨rl,pA,lv,u7,rs,x,c,st,n,p,cc,L,rfl,hx.is,hxn,hs,hlen,W,hcc,b7.mono (s6.trans (s7.trans s8)),aP _ _ (xG8.hid _ _ hrl),hrs,(P0.mono xG8.hid).mono aP,eA,Zm,fun G9 s9=>⟨_,rfl,?_⟩⟩
     rw[aK (by decide)]
     exact hN9 G9 s9
   ·walk_at "rd"
    refine⟨v,hv',x,_,rfl,d1.mono Xh,abp.mono Xh,hxn,hsW,fun u5 G5 s5 b5=>⟨(by decide),fun p6 G6 f6 s6 e6=>⟨m,kvs,ph (dB x (cM x st L)) (jQ c L),rfl,nd1.same (Xh.trans (s5.trans s6)),⟨o_ _ _,At.tup e6 (aj.cons (b5.mono s6) (aj.cons (At.tup ((Xh.trans (s5.trans s6)) _ _ Pz) (bD _)) aj.nil))⟩,?_⟩⟩⟩
    have tU:=Xh.trans (s5.trans s6)
    rw[Ls,aK (by decide)]
    refine⟨_,c,lf,jQ c L,rfl,At.tup (tU _ _ hc1) (PN.mono tU),tU _ _ Pz,by rw[<- W.ss]; exact hE.sl,hv.ne,by omega,fun G7 s7=>?_⟩
    rw[abu]
    simp only[Nm]
    refine⟨_,rfl,?_⟩
    rw[aK (by simp)]
    exact hN3 G7 (s5.trans (s6.trans s7))
  ·intro σ G1 hh1
   obtain⟨lf,ld,hv',L,p,QM,o12,Xo,Xn,Xm,Xl,Xk,rfl,QL,t1,hLt,Zn,hst,Wz,W⟩:=(hPv _ _ _).mp hh1
   have Xf:=Xd.trans QL
   have d1:=(a1.mono Xf.hid).mono aP
   have hc1:=aP _ _ (QL.hid _ _ hc)
   have PN:aj G1 (c.map RJ) xs:=(hcA.mono QL.hid).mono aP
   have hsW:=nF hx.is hs (l:=L)
   have nd1:iy G1 m kvs:=nd2.sxa Vt (x2G.trans QL)
   have Pz:=aP _ _ Zn
   have Wy:=aP _ _ Wz
   have Ls:(gf kvs (ph (dB x (cM x st L)) (jQ c L))).isSome=true:=(hkv _).mpr (by
    have:=(jw (show p<(aG x c st n).length by rw[hlen]; exact W.hp)).1
    refine g_.mpr ⟨_,this,?_⟩
    show ph (cC (aG x c st n) p).st (cC (aG x c st n) p).sp=_
    rw[W.es,W.ss])
   walk_at "rd"
   refine⟨v,hv',x,_,rfl,d1,hst.mono aP,hxn,hsW,fun u5 G5 s5 b5=>⟨(by decide),fun p6 G6 f6 s6 e6=>⟨m,kvs,ph (dB x (cM x st L)) (jQ c L),rfl,nd1.same (s5.trans s6),⟨o_ _ _,At.tup e6 (aj.cons (b5.mono s6) (aj.cons (At.tup ((s5.trans s6) _ _ Pz) (bD _)) aj.nil))⟩,?_⟩⟩⟩
   have tU:=s5.trans s6
   rw[Ls,aM rfl]
   refine⟨_,c,ld,L,rfl,At.tup (tU _ _ hc1) (PN.mono tU),tU _ _ Wy,hv.ne,by omega,fun G7 s7=>?_⟩
   have hwi:tQ c L=true:=by unfold tQ; rw[W.bh]; rfl
   rw[hwi]
   dsimp only
   rw[aM (by decide)]
   have Ri:=tU.trans s7
   refine⟨_,c,ld,L,jQ c L,rfl,At.tup (Ri _ _ hc1) (PN.mono Ri),Ri _ _ Wy,hv.ne,by omega,W.bh,fun p8 G8 s8 e8=>?_⟩
   obtain⟨y1,y2,y3⟩:=Hb (jQ c L)
   refine⟨_,_,At.tup e8 (bD _),At.tup ((Ri.trans s8) _ _ Pz) (bD _),y1,y1,y2,y2,y3,?_⟩
   rw[SeqAt.eqv_refl _ y2]
   exact q G8 (Xf.trans (lJ.of (Ri.trans s8)))
 ·walk_at "rd"
  have go:∀(lv:V) (q' r':Addr) (H3:Hp),aC H2 H3->H3 q'=some (.tup [lv,.ref r'])->(lv=.non\/∃b,lv=.int b/\eG x c st (some b) 200 n)->JV (.ref q') (V.int 0) H3 fun x H1=>
    JV (V.ref T) (V.int 0) H1 fun x_1 H1=>
     Ff [x_1,v,u,cv,V.ref l] H1
      (fun x_2 H1=>
       ∃v_1 w,
        [x,x_2]=[v_1,w] /\
         N'
          [some (V.ref T),some v,some u,some cv,some (V.ref l),some (V.ref m),some v_1,some w,none,
           none,none,none,none,none,none,none,none,none]
          H1)
      E0:=fun lv q' r' H3 s3 e3 Zm=>by
   obtain⟨a0,ha0⟩:∃a0,as[0]?=some a0:=⟨_,eV (List.length_pos_iff.mpr has)⟩
   have hm0:=jW ha0
   have Xe:lJ as H H3:=Yb.trans (lJ.of s3)
   have t3:=Vt.same s3
   obtain⟨k0,hk0,tp0⟩:=t3.tp a0 hm0
   refine Ix.tup e3 (v:=lv) rfl (Ix.lst (Xe _ _ nT hT) (v:=.ref a0) (by
    have:(as.map V.ref)[0]?=some (V.ref a0):=by rw[g8,ha0]; rfl
    exact bx (j:=0) this) ?_)
   refine⟨a0,as,n,k0,N,v,u,cv,l,ys,x,st,c,rfl,hm0,nd,t3,tp0,by omega,hk0,a1.mono Xe.hid,a2.mono Xe.hid,a3.mono Xe.hid,hx,hxn,hs,hv,hW,Xe.hid _ _ hl,hA.mono Xe.hid,D,fun r zs H4 t4 x4 f4 e4 hz P0=>⟨_,_,rfl,hN' _ _ ((hR _ _).mpr ⟨lv,r,zs,rfl,(lJ.of s3).trans x4,t4,by rw[cY (t3.new f4)]; exact e4,hz,P0,Zm⟩)⟩⟩
  refine⟨v,u,cv,x,st,c,200,rfl,(a1.mono Yb.hid).mono aP,(a2.mono Yb.hid).mono aP,(a3.mono Yb.hid).mono aP,hx.is,hxn,hs,hv,by decide,by decide,fun hW'=>absurd hW (by omega),fun _ n' D' D2 j q' r' H3 hj s3 f3 e3 er3=>?_,fun _ n' bp bc D' Bk q' r' H3 s3 f3 e3 er3=>go _ q' r' H3 s3 e3 (.inl rfl),fun _ p' cc M=>absurd (ql D M (.inl (by decide))) id⟩
  cases done_one D'.hn D.hn
  exact go _ q' r' H3 s3 e3 (.inr ⟨_,rfl,D2⟩)
variable {aQ aW:Addr}
theorem Ql (e:En):PyData.hasDict (fM e)=false/\PyData.canLay0 (fM e)=true/\PyData.depth (fM e)<=9:=by
 have k:=o_ e.st e.sp
 obtain⟨c1,c2,_⟩:=jb _ k.k
 have dp:=k.dp
 unfold ph at c1 c2 dp
 unfold fM
 generalize iJ e.st=d1 at c1 c2 dp
 generalize PyData.tuple (e.sp.map .int)=d2 at c1 c2 dp
 cases e.fr with
 | none=>
  simp only[frD,yz,Fq,PyData.hasDict,PyData.hasDictAll,PyData.canLay0,PyData.canLayAll0,PyData.depth,PyData.depthAll,Bool.or_false,yp] at c1 c2 dp ⊢
  exact⟨c2,c1,by omega⟩
 | some pc=>
  obtain⟨p,c⟩:=pc
  simp only[frD,yz,Fq,PyData.hasDict,PyData.hasDictAll,PyData.canLay0,PyData.canLayAll0,PyData.depth,PyData.depthAll,Bool.or_false,yp] at c1 c2 dp ⊢
  exact⟨c2,c1,by omega⟩
theorem DW:∀es:List En,PyData.hasDictAll (es.map fM)=false/\PyData.canLayAll0 (es.map fM)=true/\PyData.depthAll (es.map fM)<=9
 | []=>⟨rfl,rfl,by decide⟩
 | e::es=>by
  obtain⟨h1,h2,h3⟩:=DW es
  obtain⟨g1,g2,g3⟩:=Ql e
  refine⟨?_,?_,?_⟩
  ·simp only[kW,PyData.hasDictAll,h1,g1,Bool.or_false]
  ·simp only[kW,PyData.canLayAll0,h2,g2,yp]
  ·simp only[kW,PyData.depthAll]
   omega
theorem K8 (es:List En):PyData.hasDict (.list (es.map fM))=false/\PyData.canLay0 (.list (es.map fM))=true/\PyData.depth (.list (es.map fM))<=60:=by
 obtain⟨h1,h2,h3⟩:=DW es
 exact⟨by simpa[PyData.hasDict] using h1,by simpa[PyData.canLay0] using h2,by show PyData.depthAll _+1<=60; omega⟩
def Hj (K:PySem.W.Frag):Sp:=fun vs H Q _=>∃(p:Addr) (ns:List Int),vs=[.ref p]/\TV K H p (ns.map V.int)/\ns.length<=63/\∀H',Q (.bl true) H'
theorem Nh:aR ["_law_script","_law_tapes","_law_post","_law_stand","_law_curve_here","_law_entries"] ["_law_script"] (aH uJ):=(by walk_at "c")
theorem Wd (F:jk K "law" "law" uJ f fd) (B:Bi mg) (Qu:Ct P w K mg base k "_law_tape" ["_law_script","_law_k"] (M4 K)) (wF:Ct P w K mg base k "_law_small_post" ["_law_tape_here"] Hc) (tK:Ct P w K mg base k "_law_small_stand" ["_law_tape_here","_law_post"] Bx) (Lh:Ct P w K mg base k "_law_curve" ["_law_tape_here"] Hl) (Tr:Ct P w K mg base k "_law_led" ["_law_post","_law_stand","_law_curve_here"] M7) (wD:Ct P w K mg base k "_law_walk_right" ["_law_tapes","_law_post","_law_stand","_law_curve_here","_law_entries"] Yx) (qJ:L_ P w K mg base k "led" ["post","stand","curve","limit"] 300 (Hg aQ aW)):bM P w K mg base iH (k+1) f fd ["_law_script"] (Hj K):=by
 refine F.ok Nh (by rintro vs H Q E ⟨p,ns,rfl,_⟩; rfl) (fun cdv A outer s H vs Q E hr h=>?_)
 obtain⟨p,ns,rfl,hS,hl,q⟩:=h
 have ND:=Nh.nd
 refine⟨_,(aq (zP (i:=1) ND rfl (by walk_at "o") (N':=["_law_k","_law_script"]) (js:=[0]) rfl (fB (by rfl) B.range (aa (pb (iT rfl) B.max lF (aa ao (aa (pb (d7 (K:=K) rfl) B.len lG (aa (dR Rf (pv 0) fW (eX ao)) ak)) ak))) ak)) tO.mk1 rfl (by decide) rfl (fun fp s' H'=>(pf Qu hr (aa (pv 1) (aa (pv 0) ak))))) (aq (a_ (i:=2) ND rfl (by walk_at "o") (pf wF hr (aa (bz aU (pv 1) ao (fun _ _=>rfl)) ak))) (aq (vg (i:=3) (j:=4) rfl ND rfl rfl (by decide) rfl rfl (aa (pf tK hr (aa (bz aU (pv 1) ao (fun _ _=>rfl)) (aa (pv 2) ak))) (aa (pf Lh hr (aa (bz aU (pv 1) ao (fun _ _=>rfl)) ak)) ak)) (by rfl)) (aq (a_ (i:=5) ND rfl (by walk_at "o") (pf Tr hr (aa (pv 2) (aa (pv 3) (aa (pv 4) ak))))) (aq (dG (bw FW (pv 5) dU (bA _)) (aJ (aV mR)) bT) (aq (dG (NB (vd (pf wD hr (aa (pv 1) (aa (pv 2) (aa (pv 3) (aa (pv 4) (aa (pv 5) ak)))))))) (aJ (aV mR)) bT) (aJ (aV (fY (Ol hr.units) (pf qJ.all.calm hr (aa (pv 2) (aa (pv 3) (aa (pv 4) (aa ao ak))))) (pv 5) (bA _)))))))))),?_⟩
 walk_at "rd"
 rw[iI]
 walk_at "rd"
 refine⟨p,_,rfl,hS.sq,fun q0 fq0=>?_⟩
 have s0:=aO fq0 (HO.lst (nq (ns.map V.int) none (some 63)))
 have e0:upd H q0 (HO.lst (nq (ns.map V.int) none (some 63))) q0=some (.lst (nq (ns.map V.int) none (some 63))):=az
 generalize upd H q0 (HO.lst (nq (ns.map V.int) none (some 63)))=H0 at s0 e0 ⊢
 refine⟨q0,_,rfl,.inl (gW.of e0),?_⟩
 have hcl:=nj (ns.map V.int) none (some 63)
 rw[bR] at hcl
 generalize (nq (ns.map V.int) none (some 63)).length=len at hcl
 obtain⟨M,hM1,aeS,hM⟩:∃M:Nat,1<=M/\M<=63/\(if(len:Int)>1 then(len:Int) else 1)=M:=by
  by_cases z:(len:Int)>1
  ·exact⟨len,by omega,by omega,by rw[aM z]⟩
  ·exact⟨1,by omega,by omega,by rw[aK z]; rfl⟩
 refine⟨_,_,rfl,?_⟩
 refine CK.of (n:=M) hM (by omega) fun acc hacc=>?_
 have hS0:=hS.same s0
 refine⟨fun i ys H'=>∃as:List Addr,ys=as.map V.ref/\as.length=i/\as.Nodup/\pK H' as 0/\H' acc=some (.lst ys)/\acc∉as/\aC H0 H',⟨[],rfl,rfl,List.nodup_nil,⟨fun a ha=>by cases ha⟩,az,by simp,aO hacc _⟩,?_,?_⟩
 ·rintro i ys H1 hi ⟨as,rfl,hal,nd,tps,e1,Wj,s1⟩
  simp only[bO,kW,yj,HN,Cp,Hu]
  walk_at "rd"
  refine⟨p,ns,_,rfl,(hS0.same s1).sq,by omega,by omega,fun a H2 f2 s2 t2=>?_⟩
  have na:a∉as:=tps.new f2
  have nac:acc≠a:=fun z=>by rw[<- z,e1] at f2; cases f2
  refine⟨s2 _ _ e1,bj (by rw[bR]; omega),as++[a],by rw[jm]; rfl,by rw[gD,hal]; rfl,?_,⟨fun b hb=>?_⟩,az,?_,(s1.trans s2).dw hacc⟩
  ·rw[List.nodup_append]
   refine⟨nd,by simp,fun x hx y hy=>?_⟩
   rw[fj.mp hy]
   exact fun z=>na (z▸hx)
  ·rcases oV.mp hb with z | z
   ·obtain⟨m,hm,tb⟩:=tps.tp b z
    exact⟨m,hm,(tb.same s2).dw (fun y=>Wj (y▸z))⟩
   ·rw[fj.mp z]
    exact⟨0,cW _,t2.dw nac⟩
  ·intro z
   rcases oV.mp z with z | z
   ·exact Wj z
   ·exact nac (fj.mp z)
 ·rintro ys H1 ⟨as,rfl,hal,nd,tps,eT,nT,s1⟩
  obtain⟨a,ha⟩:∃a,as[0]?=some a:=⟨_,eV (by omega)⟩
  have hma:=jW ha
  have nTa:acc≠a:=fun z=>nT (z▸hma)
  have hat:GR (as.map V.ref) (0:Int)=some (.ref a):=by
   have:(as.map V.ref)[0]?=some (V.ref a):=by rw[g8,ha]; rfl
   exact bx (j:=0) this
  obtain⟨m0,hm0,t0⟩:=tps.tp a hma
  refine Ix.lst eT hat ⟨a,m0,rfl,t0,by omega,fun p4 x H4 hx b1 t4 s4=>?_⟩
  refine Ix.lst (s4.get nTa eT) hat ⟨a,_,.ref p4,x,rfl,b1.mono gU,hx.l,t4,by omega,fun p5 st H5 hs b2 t5 s5=>?_⟩
  refine Ix.lst ((s4.trans s5).get nTa eT) hat ⟨a,_,rfl,t5,by omega,fun p6 c H6 hc hcb b3 t6 s6=>⟨_,_,rfl,?_⟩⟩
  have hW:bH c (c.map (·.1))<=23:=by
   have:=O1 (m:=7) hc fun q hq=>by have:=hcb q hq; omega
   omega
  have tU:SX a H1 H6:=s4.trans (s5.trans s6)
  have eT6:=tU.get nTa eT
  have Mu:pK H6 as 1000:=tps.draw tU t6 (by omega) (by omega)
  have g1:At (dC as H6) (iD x) (.ref p4):=pK.hid nd Mu (NP _) ((b1.mono (s5.trans s6)).mono gU)
  have g2:At (dC as H6) (iJ st) (.ref p5):=pK.hid nd Mu (pP _) ((b2.mono s6).mono gU)
  have g3:At (dC as H6) (yN c) (.ref p6):=pK.hid nd Mu (WX _) (b3.mono gU)
  have hxi:=hx.l.is
  have hxn:=V0 hx.l
  refine⟨_,_,_,x,st,c,rfl,g1.mono aP,g2.mono aP,g3.mono aP,hxi,hxn,hs.is,hc,hW,fun n D l ys H7 s7 f7 e7 A7=>⟨trivial,?_⟩,fun H7 s7=>⟨trivial,?_⟩⟩
  ·rw[aK (by simp)]
   have t7:=Mu.same s7
   have x67:lJ as H6 H7:=lJ.of s7
   have nl:l∉as:=Mu.new f7
   have hlen:=D.hn
   have A7':aj (dC as H7) ((aG x c st n).map fM) ys:=pK.Zq nd t7 (rH _) A7
   refine⟨acc,as,n,1000,_,_,_,l,ys,x,st,c,rfl,s7 _ _ eT6,nT,(fun z=>by rw[z] at hal; simp at hal; omega),by omega,nd,t7,by omega,g1.mono x67.hid,g2.mono x67.hid,g3.mono x67.hid,hx.l,hxn,hs.is,hc,hW,by rw[cY nl]; exact e7,A7',D,fun H8 x8=>⟨_,rfl,?_⟩⟩
   rw[aK (by decide)]
   have x68:=x67.trans x8
   refine⟨_,_,_,x,st,c,200,rfl,(g1.mono x68.hid).mono aP,(g2.mono x68.hid).mono aP,(g3.mono x68.hid).mono aP,hxi,hxn,hs.is,hc,by decide,by decide,fun hW'=>absurd hW (by omega),fun _ n' D' l' ys' H9 s9 f9 e9 A9=>?_,fun _ p' cc M=>absurd (ql D M (.inl (by decide))) id⟩
   cases done_one D'.hn D.hn
   obtain⟨d1,d2,d3⟩:=K8 (aG x c st n)
   refine⟨_,_,At.lst e9 A9,At.lst (s9 _ _ (x8 _ _ nl e7)) (((A7'.mono x8.hid).mono aP).mono s9),d1,d1,d2,d2,d3,?_⟩
   rw[SeqAt.eqv_refl _ d2]
   exact q H9
  ·rw[aM (by decide)]
   exact q H7
end
theorem Yd {us:List Value} {n:Nat} (h:us.length=n+1):∃a r,us=a::r/\r.length=n:=by
 cases us with
 | nil=>cases h
 | cons a r=>exact⟨a,r,rfl,Nat.succ.inj h⟩
theorem Ua {us:List Value} (h:us.length=1):∃a,us=[a]:=by
 obtain⟨a,r,rfl,g⟩:=Yd h
 cases Nu.mp g
 exact⟨a,rfl⟩
theorem JC {us:List Value} (h:us.length=2):∃a a0,us=[a,a0]:=by
 obtain⟨a,r,rfl,g⟩:=Yd h
 obtain⟨a0,rfl⟩:=Ua g
 exact⟨a,a0,rfl⟩
theorem Em {us:List Value} (h:us.length=3):∃a a0 a1,us=[a,a0,a1]:=by
 obtain⟨a,r,rfl,g⟩:=Yd h
 obtain⟨a0,a1,rfl⟩:=JC g
 exact⟨a,a0,a1,rfl⟩
theorem Vr {us:List Value} (h:us.length=4):∃a a0 a1 a2,us=[a,a0,a1,a2]:=by
 obtain⟨a,r,rfl,g⟩:=Yd h
 obtain⟨a0,a1,a2,rfl⟩:=Em g
 exact⟨a,a0,a1,a2,rfl⟩
theorem Yc {us:List Value} (h:us.length=5):∃a a0 a1 a2 a3,us=[a,a0,a1,a2,a3]:=by
 obtain⟨a,r,rfl,g⟩:=Yd h
 obtain⟨a0,a1,a2,a3,rfl⟩:=Vr g
 exact⟨a,a0,a1,a2,a3,rfl⟩
theorem all_mk {l:PySem.W.OpenLaw} {w:World} {K:PySem.W.Frag} {h:Heap} {mg:Str->Option Value} {fa:Addr} (X:K.In h) (G:h.Ns mainGlobals mg) (hfa:mg "law" = some (.ref fa))
  {f0:Addr} (e0:jN K "needed" uH f0)
  {f1:Addr} (e1:jN K "most_ahead" kE f1)
  {f2:Addr} (e2:jN K "lean" Fj f2)
  {f3:Addr} (e3:jN K "lean_triple" jB f3)
  {f4:Addr} (e4:jN K "wish" Fi f4)
  {f5:Addr} (e5:jN K "rule_wish" mD f5)
  {f6:Addr} (e6:jN K "row_says" oK f6)
  {f7:Addr} (e7:jN K "hands_of" oN f7)
  {f8 T8:Addr} (e8:T5 K "beat" Fl f8 T8 12)
  {f9:Addr} (e9:jN K "since_and_look" gB f9)
  {WN:Addr} (e10:jN K "change_of" mG WN)
  {f11:Addr} (ZF:jN K "with_change" jy f11)
  {f12:Addr} (WW:jN K "sent_home" mC f12)
  {Zy:Addr} (Tg:jN K "within" uD Zy)
  {f14:Addr} (Tf:jN K "spares" uF f14)
  {f15:Addr} (Td:jN K "spares_behind" ig f15)
  {f16:Addr} (WT:jN K "bursts_of" mH f16)
  {f17:Addr} (e17:jN K "most_next" mF f17)
  {f18:Addr} (e18:jN K "spares_left" jz f18)
  {f19 T19:Addr} (e19:T5 K "led" Nj f19 T19 300)
  {f20 T20:Addr} (e20:T5 K "opened" uG f20 T20 300)
  {f21 T21:Addr} (e21:T5 K "least_bound" jA f21 T21 300)
  {f22:Addr} (e22:jN K "walked" uE f22)
  {f23:Addr} (e23:jN K "is_too_wide" jC f23)
  {f24:Addr} (e24:jN K "first_entry" jD f24)
  {f25:Addr} (e25:jN K "comes_next" kJ f25)
  {f26:Addr} (e26:jN K "led_to" uI f26)
  {f27:Addr} (e27:jN K "breaks" uM f27)
  {f28:Addr} (e28:jN K "check_room" kO f28)
  {f29:Addr} (e29:jN K "load_to" qU f29)
  {f30:Addr} (e30:jN K "_law_tape" uK f30)
  {f31:Addr} (e31:jN K "_law_draw" uL f31)
  {f32:Addr} (e32:jN K "_law_row" zE f32)
  {f33:Addr} (e33:jN K "_law_small_post" iW f33)
  {f34:Addr} (e34:jN K "_law_small_stand" ik f34)
  {f35:Addr} (e35:jN K "_law_curve" qX f35)
  {f36:Addr} (e36:jN K "_law_led" zH f36)
  {f37:Addr} (e37:jN K "_law_lefts_on" kI f37)
  {f38:Addr} (e38:jN K "_law_bounds" oM f38)
  {f39:Addr} (e39:jN K "_law_beat_right" iY f39)
  {f40:Addr} (e40:jN K "_law_walk_right" iV f40)
  {f41:Addr} (e41:jN K "law" uJ f41)
  {aQ:Addr} (Jz:PySem.W.nsIn K mainGlobals "TooMany" = some (some (.ref aQ)))
  {aW:Addr} (Jy:PySem.W.nsIn K mainGlobals "TooWide" = some (some (.ref aW)))
  (zj:PySem.W.excIn K aQ Vq "ValueError.__new__" = true)
  (zg:PySem.W.excIn K aW Vq "ValueError.__new__" = true)
  (zp:PySem.W.exmOne K (.ref aQ) (.ref aQ)=some true)
  (zm:PySem.W.exmOne K (.ref aW) (.ref aW)=some true)
  (QT:Nb K "tuple")
  (XR:Nb K "max")
  (XQ:Nb K "min")
  (Bo:Nb K "enumerate")
  (XJ:Nb K "zip")
  (XM:Nb K "sum")
  (Vm:Nb K "list")
  (Es:Nb K "reversed")
  (QV:Nb K "range")
  (XS:Nb K "len")
  (XN:Nb K "set")
  (X3:Nb K "abs")
  (XX:Nb K "int")
  (Vn:Nb K "dict")
  {Mq Mp Mm:Tok} (R6:NT K "WHATS" [.str "come" Mq,.str "done" Mp,.str "wait" Mm])
  (Wk:xM K "OVER" "over")
  (R7:xM K "UNDER" "under")
  (Wm:xM K "EACH" "each")
  (Ab:Ni K "MOST_HANDS" 12)
  (vH:Ni K "TRIPLES_SEEN" 3)
  (R8:Ni K "LIMIT" 300)
  (Dr:Ni K "MOST_COME" 23)
  (Wl:xM K "KEPT" "kept")
  (OD:xM K "BROKEN" "broken") :
  ∃fd:FuncData,(∀(s:Shared) (v:Value),BindsTo s fd ⟨[v],[]⟩ [("_law_script",v)])/\∀base:Heap,K.In base->base.Ns mainGlobals mg->bM l.prog w K mg base iH 11 fa fd ["_law_script"] (Hj K):=by
 obtain⟨h0⟩:=e0.has X G (ps:=["post"]) fun _ _ _ _ _ _ us hl=>by obtain⟨_,rfl⟩:=Ua hl; rfl
 obtain⟨h1⟩:=e1.has X G (ps:=["rows","what"]) fun _ _ _ _ _ _ us hl=>by obtain⟨_,_,rfl⟩:=JC hl; rfl
 obtain⟨h2⟩:=e2.has X G (ps:=["post","stand"]) fun _ _ _ _ _ _ us hl=>by obtain⟨_,_,rfl⟩:=JC hl; rfl
 obtain⟨h3⟩:=e3.has X G (ps:=["triple","place","wants"]) fun _ _ _ _ _ _ us hl=>by obtain⟨_,_,_,rfl⟩:=Em hl; rfl
 obtain⟨h4⟩:=e4.has X G (ps:=["post","hands","newest"]) fun _ _ _ _ _ _ us hl=>by obtain⟨_,_,_,rfl⟩:=Em hl; rfl
 obtain⟨h5⟩:=e5.has X G (ps:=["rule","hands","newest"]) fun _ _ _ _ _ _ us hl=>by obtain⟨_,_,_,rfl⟩:=Em hl; rfl
 obtain⟨h6⟩:=e6.has X G (ps:=["row","hands","newest"]) fun _ _ _ _ _ _ us hl=>by obtain⟨_,_,_,rfl⟩:=Em hl; rfl
 obtain⟨h7⟩:=e7.has X G (ps:=["stand"]) fun _ _ _ _ _ _ us hl=>by obtain⟨_,rfl⟩:=Ua hl; rfl
 obtain⟨h8⟩:=e8.has X G (ps:=["post","stand","come","free"]) (fun _ _ _ _ _ _ _ us hl=>by
  rw[mL] at hl
  obtain⟨_,_,_,_,rfl⟩:=Vr hl
  exact⟨_,rfl,rfl⟩) fun _ _ _ _ _ _ _ us hl=>by
  obtain⟨_,_,_,rfl⟩:=Em (Nat.succ.inj ((gD).symm.trans hl))
  exact⟨_,rfl,rfl⟩
 obtain⟨h9⟩:=e9.has X G (ps:=["post","since","rest"]) fun _ _ _ _ _ _ us hl=>by obtain⟨_,_,_,rfl⟩:=Em hl; rfl
 obtain⟨h10⟩:=e10.has X G (ps:=["post","hands","newest","free"]) fun _ _ _ _ _ _ us hl=>by obtain⟨_,_,_,_,rfl⟩:=Vr hl; rfl
 obtain⟨h11⟩:=ZF.has X G (ps:=["post","stand","change"]) fun _ _ _ _ _ _ us hl=>by obtain⟨_,_,_,rfl⟩:=Em hl; rfl
 obtain⟨h12⟩:=WW.has X G (ps:=["ready","called","many"]) fun _ _ _ _ _ _ us hl=>by obtain⟨_,_,_,rfl⟩:=Em hl; rfl
 obtain⟨h13⟩:=Tg.has X G (ps:=["curve","load"]) fun _ _ _ _ _ _ us hl=>by obtain⟨_,_,rfl⟩:=JC hl; rfl
 obtain⟨h14⟩:=Tf.has X G (ps:=["curve","load"]) fun _ _ _ _ _ _ us hl=>by obtain⟨_,_,rfl⟩:=JC hl; rfl
 obtain⟨h15⟩:=Td.has X G (ps:=["curve","load"]) fun _ _ _ _ _ _ us hl=>by obtain⟨_,_,rfl⟩:=JC hl; rfl
 obtain⟨h16⟩:=WT.has X G (ps:=["curve"]) fun _ _ _ _ _ _ us hl=>by obtain⟨_,rfl⟩:=Ua hl; rfl
 obtain⟨h17⟩:=e17.has X G (ps:=["curve","spare"]) fun _ _ _ _ _ _ us hl=>by obtain⟨_,_,rfl⟩:=JC hl; rfl
 obtain⟨h18⟩:=e18.has X G (ps:=["curve","spare","come"]) fun _ _ _ _ _ _ us hl=>by obtain⟨_,_,_,rfl⟩:=Em hl; rfl
 obtain⟨h19⟩:=e19.has X G (ps:=["post","stand","curve","limit"]) (fun _ _ _ _ _ _ _ us hl=>by
  rw[mL] at hl
  obtain⟨_,_,_,_,rfl⟩:=Vr hl
  exact⟨_,rfl,rfl⟩) fun _ _ _ _ _ _ _ us hl=>by
  obtain⟨_,_,_,rfl⟩:=Em (Nat.succ.inj ((gD).symm.trans hl))
  exact⟨_,rfl,rfl⟩
 obtain⟨h20⟩:=e20.has X G (ps:=["post","stand","curve","bound","limit"]) (fun _ _ _ _ _ _ _ us hl=>by
  rw[mL] at hl
  obtain⟨_,_,_,_,_,rfl⟩:=Yc hl
  exact⟨_,rfl,rfl⟩) fun _ _ _ _ _ _ _ us hl=>by
  obtain⟨_,_,_,_,rfl⟩:=Vr (Nat.succ.inj ((gD).symm.trans hl))
  exact⟨_,rfl,rfl⟩
 obtain⟨h21⟩:=e21.has X G (ps:=["post","stand","curve","limit"]) (fun _ _ _ _ _ _ _ us hl=>by
  rw[mL] at hl
  obtain⟨_,_,_,_,rfl⟩:=Vr hl
  exact⟨_,rfl,rfl⟩) fun _ _ _ _ _ _ _ us hl=>by
  obtain⟨_,_,_,rfl⟩:=Em (Nat.succ.inj ((gD).symm.trans hl))
  exact⟨_,rfl,rfl⟩
 obtain⟨h22⟩:=e22.has X G (ps:=["post","stand","curve","bound","limit"]) fun _ _ _ _ _ _ us hl=>by obtain⟨_,_,_,_,_,rfl⟩:=Yc hl; rfl
 obtain⟨h23⟩:=e23.has X G (ps:=["curve"]) fun _ _ _ _ _ _ us hl=>by obtain⟨_,rfl⟩:=Ua hl; rfl
 obtain⟨h24⟩:=e24.has X G (ps:=["post","stand","curve"]) fun _ _ _ _ _ _ us hl=>by obtain⟨_,_,_,rfl⟩:=Em hl; rfl
 obtain⟨h25⟩:=e25.has X G (ps:=["curve","entry"]) fun _ _ _ _ _ _ us hl=>by obtain⟨_,_,rfl⟩:=JC hl; rfl
 obtain⟨h26⟩:=e26.has X G (ps:=["post","curve","entry","come"]) fun _ _ _ _ _ _ us hl=>by obtain⟨_,_,_,_,rfl⟩:=Vr hl; rfl
 obtain⟨h27⟩:=e27.has X G (ps:=["bound","behind","away"]) fun _ _ _ _ _ _ us hl=>by obtain⟨_,_,_,rfl⟩:=Em hl; rfl
 obtain⟨h28⟩:=e28.has X G (ps:=["entries","limit"]) fun _ _ _ _ _ _ us hl=>by obtain⟨_,_,rfl⟩:=JC hl; rfl
 obtain⟨h29⟩:=e29.has X G (ps:=["entries","place"]) fun _ _ _ _ _ _ us hl=>by obtain⟨_,_,rfl⟩:=JC hl; rfl
 obtain⟨h30⟩:=e30.has X G (ps:=["_law_script","_law_k"]) fun _ _ _ _ _ _ us hl=>by obtain⟨_,_,rfl⟩:=JC hl; rfl
 obtain⟨h31⟩:=e31.has X G (ps:=["_law_tape_here","_law_many"]) fun _ _ _ _ _ _ us hl=>by obtain⟨_,_,rfl⟩:=JC hl; rfl
 obtain⟨h32⟩:=e32.has X G (ps:=["_law_tape_here"]) fun _ _ _ _ _ _ us hl=>by obtain⟨_,rfl⟩:=Ua hl; rfl
 obtain⟨h33⟩:=e33.has X G (ps:=["_law_tape_here"]) fun _ _ _ _ _ _ us hl=>by obtain⟨_,rfl⟩:=Ua hl; rfl
 obtain⟨h34⟩:=e34.has X G (ps:=["_law_tape_here","_law_post"]) fun _ _ _ _ _ _ us hl=>by obtain⟨_,_,rfl⟩:=JC hl; rfl
 obtain⟨h35⟩:=e35.has X G (ps:=["_law_tape_here"]) fun _ _ _ _ _ _ us hl=>by obtain⟨_,rfl⟩:=Ua hl; rfl
 obtain⟨h36⟩:=e36.has X G (ps:=["_law_post","_law_stand","_law_curve_here"]) fun _ _ _ _ _ _ us hl=>by obtain⟨_,_,_,rfl⟩:=Em hl; rfl
 obtain⟨h37⟩:=e37.has X G (ps:=["_law_curve_here","_law_lefts","_law_come"]) fun _ _ _ _ _ _ us hl=>by obtain⟨_,_,_,rfl⟩:=Em hl; rfl
 obtain⟨h38⟩:=e38.has X G (ps:=["_law_tape_here","_law_post","_law_stand","_law_curve_here","_law_entries"]) fun _ _ _ _ _ _ us hl=>by obtain⟨_,_,_,_,_,rfl⟩:=Yc hl; rfl
 obtain⟨h39⟩:=e39.has X G (ps:=["_law_rows","_law_least","_law_behind","_law_away","_law_load"]) fun _ _ _ _ _ _ us hl=>by obtain⟨_,_,_,_,_,rfl⟩:=Yc hl; rfl
 obtain⟨h40⟩:=e40.has X G (ps:=["_law_tapes","_law_post","_law_stand","_law_curve_here","_law_entries"]) fun _ _ _ _ _ _ us hl=>by obtain⟨_,_,_,_,_,rfl⟩:=Yc hl; rfl
 have B:Bi mg:=⟨PySem.W.mg_none_of X G QT,PySem.W.mg_none_of X G XR,PySem.W.mg_none_of X G XQ,PySem.W.mg_none_of X G Bo,PySem.W.mg_none_of X G XJ,PySem.W.mg_none_of X G XM,PySem.W.mg_none_of X G Vm,PySem.W.mg_none_of X G Es,PySem.W.mg_none_of X G QV,PySem.W.mg_none_of X G XS,PySem.W.mg_none_of X G XN,PySem.W.mg_none_of X G X3,PySem.W.mg_none_of X G XX,PySem.W.mg_none_of X G Vn⟩
 have O:Co K mg:=⟨(let ⟨a,n,_,z,m⟩:=R6; ⟨a,PySem.W.mg_of X G z,⟨_,m,rfl,rfl⟩,fun H=>.inr ⟨_,_,n,m,rfl,rfl,(by show 3<=sizeLine; decide),(.cons ⟨_,rfl⟩ (.cons ⟨_,rfl⟩ (.cons ⟨_,rfl⟩ .nil)))⟩⟩),Wk.gs X G,R7.gs X G,Wm.gs X G,Ab.gi X G,vH.gi X G,R8.gi X G,Dr.gi X G,Wl.gs X G,OD.gs X G⟩
 have Z:ZL K mg aQ aW:=⟨PySem.W.mg_of X G Jz,PySem.W.mg_of X G Jy,zj,zg,zp,zm⟩
 obtain⟨oc,od,an,sl,kV,dc,pm,cd,ct,ea,el,ec,ek0⟩:=e41
 have e:=hfa.symm.trans (PySem.W.mg_of X G ea)
 cases e
 refine⟨PySem.W.fnOf "law" "law" (dH uJ) (cJ uJ) (aH uJ) .none kV dc pm an cd ct,fun s v=>.of_eq rfl,fun base _ _=>?_⟩
 have F:=Qf (st:=uJ) el ec ek0
 have Ec:=h30.ct l.prog w base (Ko (k:=0) h30.F B)
 have fD:=h31.ct l.prog w base (Kp (k:=0) h31.F B)
 have GK:=h32.ct l.prog w base (Oo (k:=1) h32.F B (fD.mono (by decide)))
 have qL:=h33.ct l.prog w base (sY (k:=2) h33.F B (fD.mono (by decide)) (GK.mono (by decide)))
 have pI:=h34.ct l.prog w base (rD (k:=1) h34.F B (fD.mono (by decide)))
 have A_:=h35.ct l.prog w base (F_ (k:=1) h35.F B (fD.mono (by decide)))
 have bZ:=h17.ct l.prog w base (zX (k:=0) h17.F B)
 have cR:=h16.ct l.prog w base (zZ (k:=0) h16.F B)
 have jK:=h23.ct l.prog w base (vC (k:=1) h23.F O (bZ.mono (by decide)) (cR.mono (by decide)))
 have lC:=h1.ct l.prog w base (xg (k:=0) h1.F B)
 have wB:=h0.ct l.prog w base (Kl (k:=1) h0.F B O (lC.mono (by decide)))
 have jH:=h3.ct l.prog w base (vB (k:=0) h3.F B)
 have jJ:=h2.ct l.prog w base (R0 (k:=2) h2.F B (wB.mono (by decide)) (jH.mono (by decide)))
 have jL:=h24.ct l.prog w base (vD (k:=3) h24.F (jJ.mono (by decide)) (cR.mono (by decide)))
 have lD:=h25.ct l.prog w base (xm (k:=1) h25.F B (bZ.mono (by decide)))
 have gK:=h9.ct l.prog w base (qj (k:=0) h9.F)
 have pG:=h6.ct l.prog w base (Dl (k:=0) h6.F B O)
 have nC:=h5.ct l.prog w base (zW (k:=1) h5.F (pG.mono (by decide)))
 have GF:=h4.ct l.prog w base (RZ (k:=2) h4.F B (nC.mono (by decide)))
 have nD:=h10.ct l.prog w base (zY (k:=3) h10.F B (GF.mono (by decide)))
 have pH:=h7.ct l.prog w base (Dn (k:=0) h7.F B)
 have nu:=h12.ct l.prog w base (zV (k:=0) h12.F B)
 have jF:=h11.ct l.prog w base (vq (k:=1) h11.F B (nu.mono (by decide)))
 have rN:=h8.ct l.prog w base (R1 (k:=4) h8.F B O (gK.mono (by decide)) (nD.mono (by decide)) (pH.mono (by decide)) (jF.mono (by decide)))
 have dD:=h18.ct l.prog w base (vy (k:=0) h18.F B)
 have wC:=h26.ct l.prog w base (Km (k:=5) h26.F (jJ.mono (by decide)) (rN.mono (by decide)) (dD.mono (by decide)))
 have wH:=h27.ct l.prog w base (Kq (k:=0) h27.F)
 have lE:=h28.ctE l.prog w base (xn (k:=0) h28.F B Z)
 have iU:=h29.ct l.prog w base (FZ (k:=0) h29.F)
 have j9:=h22.ctE l.prog w base (Kf (k:=6) h22.F B O Z (jK.mono (by decide)) (jL.mono (by decide)) (lD.mono (by decide)) (wC.mono (by decide)) (wH.mono (by decide)) (lE.mono (by decide)) (iU.mono (by decide)))
 have qJ:=h19.ctF l.prog w base (Wc (k:=7) h19.F (j9.mono (by decide)))
 have GP:=h36.ct l.prog w base (Oq (k:=8) h36.F B Z (qJ.mono (by decide)))
 have j_:=h20.ctF l.prog w base (Kh (k:=7) h20.F O (j9.mono (by decide)))
 have jG:=h21.ctF l.prog w base (vA (k:=8) h21.F B O (qJ.mono (by decide)) (j_.mono (by decide)) (iU.mono (by decide)))
 have xH:=h38.ct l.prog w base (Dm (k:=8) h38.F B (fD.mono (by decide)) (j_.mono (by decide)))
 have tL:=h37.ct l.prog w base (xj (k:=0) h37.F B)
 have qN:=h39.ct l.prog w base (sZ (k:=0) h39.F B)
 have cO:=h15.ct l.prog w base (rC (k:=1) h15.F B (cR.mono (by decide)) (bZ.mono (by decide)) (dD.mono (by decide)))
 have qI:=h14.ct l.prog w base (Kg (k:=2) h14.F B (cO.mono (by decide)))
 have wA:=h13.ct l.prog w base (Ke (k:=2) h13.F B (cO.mono (by decide)))
 have qK:=h40.ct l.prog w base (sX (k:=9) h40.F B (fD.mono (by decide)) (jG.mono (by decide)) (xH.mono (by decide)) (jJ.mono (by decide)) (bZ.mono (by decide)) (rN.mono (by decide)) (tL.mono (by decide)) (qN.mono (by decide)) (qI.mono (by decide)) (wA.mono (by decide)))
 exact Wd (k:=10) F B (Ec.mono (by decide)) (qL.mono (by decide)) (pI.mono (by decide)) (A_.mono (by decide)) (GP.mono (by decide)) (qK.mono (by decide)) (qJ.mono (by decide))
theorem walk {l:PySem.W.OpenLaw} {q:Program} {loose:List Str} {XP:(Str->Option Value)->Heap->Prop} {YP:World->Heap->Prop} {d:DefRec} {K:Params->PySem.W.Frag} (hn:l.most=some 63) (hdf:d.params.defaults=[])
  (hY:∀(w:World) (h:Heap),YP w h->(K w.params).In h)
  (F:∀(w:World) (mg:Str->Option Value) (fa:Addr) (h:Heap),(K w.params).In h->h.Ns mainGlobals mg->mg d.name=some (.ref fa) ->
   ∃fd:FuncData,(∀(s:Shared) (u:Value),BindsTo s fd ⟨[u],[]⟩ [("_law_script",u)])/\∀base:Heap,(K w.params).In base->base.Ns mainGlobals mg->bM l.prog w (K w.params) mg base iH 11 fa fd ["_law_script"] (Hj (K w.params))) :
  PySem.W.WalkO q loose XP YP l.row.toRowW d [] (fun f vs=>PySem.call f vs):=
 L2.Q3 (n:=63) (k:=11) (x:="_law_script") (CX:=fun _=>iH) (sp:=fun w=>Hj (K w.params)) hn (by decide) hdf ⟨rfl,by decide,by decide,rfl⟩ hY F (fun _ _ a ns hl hO hS=>⟨a,ns,rfl,TV.of hS hO,hl,fun _=>rfl⟩) fun _ _ _ _ _ z=>z
end K84
structure PySem.W.Fast:Prop where(tw4835308541745517509 tw9707786817114160275 tw9920067608218770430 tw6317930253384529291 tw5395809185436793903 tw4394778374491427934 tw12098162201748557411 tw3231094125639395352 tw14975715980881074762 tw3247155384269256779 tw1075621513545486367 tw1003392932107902111 tw3028154840058888805 tw6108589822225792154 tw3450050993922339058 tw6661702955688914767 tw3623982625704845719 tw5607801809138205945 tw7874492248269669421 tw11203872136776613618 tw11387183857578606373 tw7267304989922396102 tw15760778130132781454 tw17057405710733047604 tw6382517332335148994 tw14410976514925815142 tw10299202670846144899 tw17321606525177039155 tw18089813319290638015 tw10441383119151461715 tw5873373092202251242 tw7779809418110157846 tw2923129484894423937 tw13169812844996155951 tw15293436932459329529 tw16133163495344894783 tw16048276408871802834 tw4012619146262588340 tw5128205948617821060 tw472752319751542720 tw13301591178444884767 tw7415031824145901945 tw7030175921858912359 tw4278955479599631611 tw1863849728636635037 tw17626388564289315056 tw4411101706542506960 tw1460809195668087321 tw17834658228304858028 tw10270425976063092107 tw15506611906091790436 tw8328259326877349663 tw3445459707735678142 tw16496010851818272415 tw3948675339364293817 tw13156495105273930622 tw12599118611757063792 tw16363093509529665101 tw3467189458766843876 tw1429734681063259456 tw17517371025951348556 tw8249709099027738611 tw4382920108100636363 tw4221375390904624829 tw9171726224139095881 tw3650243337021117755 tw18279579754668745110 tw13957481129790941334 tw6403462806426081597 tw18143976068325656270 tw4996742954691736673 tw253541186326745646 tw18286744732386421036 tw17285833570935555964 tw74169304075943356 tw6754705793485024962 tw3400709443077573175 tw10432431216374931998 tw13669294466147573715 tw12422127233585132704 tw527648461760952367 tw16631005709888888072 tw2766348116210307561 tw9903685759234736839 tw5934598220822811214 tw16880749038658926167 tw16453221110510942426 tw14589838895973911000 tw12546857124552850535 tw16227195965850527351 tw2922794348776710276 tw3786063296239272162 tw16395543279013365475 tw6599194007858848862 tw5479187281292594620 tw18274242706930941140 tw9479917620801713453 tw2440725136934517671 tw11264535983606784904 tw18172238148847829976 tw17884871146603820508 tw1823880267586228016 tw8667229815358110451 tw8819984336418099643 tw5240744988702554142 tw9397452930846363978 tw14243814890028774913 tw4545226609208015686 tw13602705069866631777 tw4320944935787516190 tw9717394583660366365 tw3657865313975651641 tw6039691858941701877 tw6824722153735765975 tw13424305231558811040 tw3401890300272367198 tw1028377648996619508 tw203720529033856440 tw11325796021110394359 tw3833812459492853555 tw17984793637845275897 tw3245660448848260882 tw5895729578775082108 tw13787819227947740166 tw13468885931420994465 tw8332643140370320753 tw6543999043185891461 tw10874911976847941129 tw5839194867716275404 tw16729628400588564764 tw17062733266732137338 tw15658371900804522769 tw12885669342334577053 tw7423625202859735644 tw7070934764368186189 tw10912940790776486362 tw11187798247359671594 tw16810307097610080279 tw3541504244554418342 tw18347384321822188649 tw13521049599155978721 tw2420686905399288148 tw9049471179571816042 tw6609150244280226146 tw2152292852779127225 tw6547349546633133892 tw16749778924076268935 tw8116754845166467807 tw4799437002402271026 tw444938631663264822 tw2266942952993429180 tw11774039231690188820 tw6781022191029711310 tw14973176517884921822 tw14085204488639644289 tw2013709833192360697 tw9506346727177311124 tw13800474767107266841 tw14856542619046923034 tw17561404205263287998 tw18329028602815897102 tw13697699096982563717 tw16137969866279891937 tw15216981419225435670 tw13533798334107668884 tw11769205973888530585 tw15956961221205988591 tw10369804306957946742 tw889169020013791654 tw13616341794875708440 tw5648068049330570774 tw7518277705475304128 tw9988826441766952372 tw16670516677179248157 tw2135942202285254069 tw18344132430508165046 tw8128337547113503002 tw15580981905131082707 tw11714943484186688009 tw1118938032424514943 tw6215790576174093045 tw4521139596941944235 tw7287387732046505720 tw12125068433692336339 tw11969778769721281291 tw7913757890642231103 tw16760221487700723994 tw3449226723306183651 tw14097476310032893974 tw9752520880482818212 tw1236558023528424463 tw15926858699379555604 tw9867498258301738248 tw1402337256721973050 tw4189258827946164845 tw6868803443317392666 tw1652652415504981471 tw3903319607810467283 tw14919721491541836406 tw1374353964483386002 tw14662376173861578746 tw2299338031279953004 tw812155888620761133 tw7345454459095642738 tw13697152475791954783 tw14588540797141366562 tw1264412445955225439 tw16992203482134286354 tw16773079877645928403 tw17766141034954006327 tw5585838657620563863 tw3143285192812445566 tw1084591516423375783 tw4848040163629847137 tw12647569298442645069 tw13646446789954636834 tw13714089737325053097 tw12093418391586612486 tw17112994059782864793 tw7339632075003118446 tw12588892561861909840 tw6823529306679541391 tw417972034146230886 tw4759925051975939647 tw4200981827280233823 tw13732701738217336613 tw1833839562169170310 tw16211916973008200546 tw11054811860902551225 tw14786853217667337130 tw6331326749180630153 tw17564026810785543433 tw17688840326795645125 tw16795476940694685509 tw433403886200621862 tw9172876684271977574 tw9560382412423284184 tw9373462746504156025 tw6470468149099502822 tw7656403957309160243 tw5576800962998013219 tw1288053053552203223 tw11378429764055492974 tw3973050652703112909 tw8008576674165347727 tw4218733925435936199 tw7271112365019947711 tw810930549831850401 tw10958465281898569803 tw9976949064002690791 tw4287235826192007648 tw5793871479292791092 tw13303859928561438962 tw10202959727118701003 tw6382169363236738474 tw13747691926541408892 tw14492403678316961034 tw17955698477698959911 tw12540532278963999713 tw12263360963227969222 tw17494859074906110535 tw8825723967212707449 tw18046540017284135882 tw11107313228894798995 tw6776186445934024976 tw18045080633157670758 tw12737689876260413479 tw14349704814627945788 tw1855440568740394093 tw8392080571056984658 tw10093942684683565202 tw11259380984340070454 tw16508282987894263111 tw3032575909100847954 tw17184510144446157518 tw16077428398640063382 tw12529905561907363597 tw4611638049388979342 tw5211059620800116209 tw15304260158788493719 tw8501835141241202001 tw1568804929907768076 tw7514698167292532586 tw6258198832533545008 tw1186467173619811615 tw5183881015443061029 tw9684688761051450431 tw14254662716276731670 tw6272294455902313240 tw8411661989121798969 tw9252783296795860767 tw4937748716761551088 tw10334127457745505773 tw16018985777042564150 tw17332407979605330644 tw11414369143380791389 tw7487967008699292181 tw11548338226486880189 tw11036488280479847407 tw1951867717497522240 tw12470166846422811548 tw17914547654140064345 tw17256290548852889040:True)
open PySem PySem.W PyProof.Rows
local macro_rules | `(tactic| walk_at "fd")=>`(tactic| (refine' L2.T5.mk ?a ?b ?c ?d ?e; (case a=>k_is); (case b=>k_is); (case c=>k_is); (case d=>k_is); (case e=>k_is)))
local macro_rules | `(tactic| walk_at "fn")=>`(tactic| (refine' L2.jN.mk ?a ?b ?c ?d; (case a=>k_is); (case b=>k_is); (case c=>k_is); (case d=>k_is)))
local macro_rules | `(tactic| walk_at "nb")=>`(tactic| (unfold L2.Nb; k_is))
local macro_rules | `(tactic| walk_at "ni")=>`(tactic| (refine' L2.Ni.mk ?a; (case a=>k_is)))
local macro_rules | `(tactic| walk_at "ns")=>`(tactic| (refine' L2.xM.mk ?a; (case a=>k_is)))
local macro_rules | `(tactic| walk_at "nt")=>`(tactic| (refine' L2.NT.mk ?a ?b; (case a=>k_is); (case b=>k_is)))
set_option maxRecDepth 100000 in
set_option maxHeartbeats 0 in
theorem PySem.Challenge.cw_waithands_k84_whole_loads_walked_in_entr_holds : PySem.Challenge.rw_waithands_k84_whole_loads_walked_in_entr.Holds := by
 w_on; o_law; k_head; (case hw=>w_witness2)
 k_fill
 refine K84.walk (l:=PySem.Challenge.rw_waithands_k84_whole_loads_walked_in_entr) rfl rfl (fun w h Y=>PySem.W.kIn_of Y) ?F
 case F=>
  intro w mg fa h KX G hmg
  refine' K84.all_mk KX G hmg ?e0 ?e1 ?e2 ?e3 ?e4 ?e5 ?e6 ?e7 ?e8 ?e9 ?e10 ?ZF ?WW ?Tg ?Tf ?Td ?WT ?e17 ?e18 ?e19 ?e20 ?e21 ?e22 ?e23 ?e24 ?e25 ?e26 ?e27 ?e28 ?e29 ?e30 ?e31 ?e32 ?e33 ?e34 ?e35 ?e36 ?e37 ?e38 ?e39 ?e40 ?e41 ?e42 ?e43 ?e44 ?e45 ?e46 ?e47 ?e48 ?e49 ?e50 ?e51 ?e52 ?e53 ?e54 ?e55 ?e56 ?e57 ?e58 ?e59 ?e60 ?e61 ?e62 ?e63 ?e64 ?e65 ?e66 ?e67 ?e68 ?e69 ?e70 ?e71
  case e0 | e1 | e2 | e3 | e4 | e5 | e6 | e7=>walk_at "fn"
  case e8=>walk_at "fd"
  case e9 | e10 | ZF | WW | Tg | Tf | Td | WT | e17 | e18=>walk_at "fn"
  case e19 | e20 | e21=>walk_at "fd"
  case e22 | e23 | e24 | e25 | e26 | e27 | e28 | e29 | e30 | e31 | e32 | e33 | e34 | e35 | e36 | e37 | e38 | e39 | e40 | e41=>walk_at "fn"
  case e42 | e43=>k_is
  case e44 | e45=>k_exc
  case e46 | e47=>kts_exm
  case e48 | e49 | e50 | e51 | e52 | e53 | e54 | e55 | e56 | e57 | e58 | e59 | e60 | e61=>walk_at "nb"
  case e62=>walk_at "nt"
  case e63 | e64 | e65=>walk_at "ns"
  case e66 | e67 | e68 | e69=>walk_at "ni"
  case e70 | e71=>walk_at "ns"

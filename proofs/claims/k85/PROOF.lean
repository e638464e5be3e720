import PyProof.Rows.All
import Wide.All
import OpenK.AllK
import Wide.FinOn
import Lean
import PyProof.EqAt
import PyProof.EqKinds
import PyProof.TupleCall
import PyProof.P3In
import PyProof.NeData
import KE.KMinKey
import PyProof.Rows.CallKwBuiltin
import PyProof.LayNew
import PyProof.EnumFor
import PyProof.EnumMake
import PyProof.EnumStmt
import KE.KRevIter
import KE.KRevSl
import PyProof.StationsW
import PyProof.RulesAs
import KE.KTryMore
import PyProof.Rows.TopTwo
import PyProof.NsDelKeeps
import PyProof.ExcArgsOwn
import KE.KIsAll
import PyProof.AutoListH
import PyProof.SetRoads
import PyProof.SetNew
import PyProof.ListRange
import PyProof.Rows.TupDisplay
import PyProof.Draws
import PyProof.ZipIter
import PyProof.TupleIter
import PyProof.AttrMissSeq
import KE.KDictOf
import PySem.Challenge.RW_waithands_k85_whole_broken_loads_the_sho
set_option Elab.async false
set_option linter.all false
set_option maxRecDepth 100000
section
open PySem PySem.Spec PyProof.Rows
abbrev aW:=@wpAny_bind
abbrev bM:=@List.length_map
abbrev dY:=@Heap.get?_push_of_some
abbrev fD:=@List.getElem?_eq_getElem
abbrev gC:=@List.getD_eq_getElem?_getD
abbrev bV:=@wpAny_pure
abbrev iJ:=@lookup_relabel_local
abbrev fQ:=@List.getElem?_map
abbrev gH:=@List.length_append
abbrev bB:=@if_neg
abbrev fj:=@List.getElem?_eq_some_iff
abbrev bI:=@Nat.le_refl
abbrev bU:=@List.mem_cons
abbrev dJ:=@Heap.get?_push_size
abbrev aP:=@if_pos
abbrev cC:=@Heap.lt_size
abbrev fH:=@List.mem_singleton
abbrev jf:=@List.mem_append_right
abbrev gA:=@List.size_toArray
abbrev je:=@List.mem_of_getElem?
abbrev jx:=@List.mem_cons_of_mem
abbrev kJ:=@Option.map_eq_some_iff
abbrev jw:=@Bool.false_eq_true
abbrev iu:=@List.map_append
abbrev h_:=@decide_eq_true
abbrev jU:=@Nat.lt_of_lt_of_le
abbrev jT:=@List.mem_cons_self
abbrev e_:=@Nat.zero_le
abbrev gw:=@Nat.ne_of_lt
abbrev jH:=@List.not_mem_nil
abbrev jG:=@List.length_take
abbrev jF:=@List.length_cons
abbrev lK:=@Bool.false_ne_true
abbrev ju:=@decide_eq_false
abbrev nj:=@Array.length_toList
abbrev jm:=@Heap.size_push
abbrev iK:=@List.mem_map
abbrev lJ:=@List.append_nil
abbrev g_:=@wpAny_mono
abbrev jt:=@Nat.le_of_lt
abbrev m_:=@List.mem_append
abbrev uO:=@Heap.get?_update_other
abbrev zj:=@List.getElem?_append_right
abbrev zg:=@Array.getElem?_eq_some_iff
abbrev pL:=@List.take_length
abbrev rn:=@wpAny_Call_Name_kw
abbrev jE:=@wpAny_field
abbrev zf:=@Option.isSome_iff_exists
abbrev tQ:=@Int.toNat_natCast
abbrev zb:=@Heap.get?_update_self
abbrev tO:=@List.lookup_cons
abbrev uN:=@wpAny_newObj_type
abbrev pK:=@wpAny_holding
abbrev Gy:=@List.getElem?_append_left
abbrev Gx:=@Array.getElem?_eq_getElem
abbrev n_:=@Nat.le_trans
abbrev rm:=@wpAny_seqItems
abbrev y_:=@List.length_zipWith
abbrev wR:=@List.append_assoc
abbrev yZ:=@of_decide_eq_false
abbrev q_:=@List.map_cons
abbrev wQ:=@wpAny_call_entry
abbrev wO:=@List.length_drop
abbrev wN:=@List.all_eq_true
abbrev wM:=@Bool.and_eq_true
abbrev yX:=@of_decide_eq_true
abbrev pJ:=@Int.le_refl
abbrev Gw:=@List.mem_iff_getElem?
abbrev Gv:=@List.length_replicate
abbrev Gu:=@Array.getElem?_toList
abbrev tM:=@Nat.lt_irrefl
abbrev PL:=@Array.getD_eq_getD_getElem?
abbrev Gr:=@Int.emod_lt_of_pos
abbrev wL:=@Bool.not_true
abbrev tL:=@wpAny_of_eq
abbrev PB:=@wpAny_callSpecial?_slot
abbrev JB:=@wpAny_pyIter_tuple
abbrev nZ:=@congrArg
abbrev Dj:=@List.take_succ
abbrev Di:=@List.mem_range
abbrev Pz:=@List.getElem?_zipWith
abbrev Gq:=@Int.emod_nonneg
abbrev Jz:=@wpAny_truthy_bool
abbrev Jy:=@wpAny_pyIter_list
abbrev yW:=@Nat.sub_self
abbrev Py:=@Nat.pow_le_pow_right
abbrev Dh:=@wpAny_standAt
abbrev Px:=@List.filterMap_cons
abbrev Td:=@List.length_eq_zero_iff
abbrev Jx:=@List.getElem_mem
abbrev Tc:=@List.getElem?_cons_succ
abbrev Pu:=@wpAny_setField_rec
abbrev Jw:=@wpAny_passesOwn
abbrev Jv:=@List.forIn_cons
abbrev Gp:=@Nat.add_assoc
abbrev S_:=@List.getElem?_eq_none
abbrev Pq:=@wpAny_setState_of
abbrev Pn:=@Nat.lt_succ_of_lt
abbrev Be:=@List.length_range
abbrev Hd:=@List.mem_append_left
abbrev Bd:=@Nat.le_add_right
abbrev Bc:=@List.drop_length
abbrev Hc:=@List.replicate_succ
abbrev Bb:=@wpAny_specialOf
abbrev Ba:=@wpAny_execs_nil
abbrev A_:=@Option.map_some
abbrev Az:=@List.nil_append
abbrev rB:=@wpAny_rule
abbrev Hb:=@List.getElem_range
abbrev Ha:=@List.getElem?_drop
abbrev Ay:=@wpAny_tryCatch
abbrev Ax:=@wpAny_setField
abbrev Mv:=@List.getElem?_set_self
abbrev G_:=@List.flatten_cons
abbrev G9:=@wpAny_forIn_list
abbrev G8:=@Nat.lt_succ_self
abbrev G7:=@List.ext_getElem
abbrev Aw:=@List.map_take
abbrev wU:=@wpAny_letGo
abbrev Mu:=@List.mem_of_mem_take
abbrev GZ:=@List.range_succ
abbrev GX:=@List.nodup_cons
abbrev GR:=@List.length_nil
abbrev GQ:=@Bool.eq_iff_iff
abbrev Mt:=@List.map_eq_nil_iff
abbrev Ms:=@List.getElem?_range
abbrev Mr:=@Heap.SameBut.update
abbrev Av:=@Nat.min_self
abbrev Mq:=@Array.forIn_toList
abbrev Tn:=@List.pairwise_iff_getElem
abbrev Tj:=@List.drop_eq_getElem_cons
abbrev Mp:=@wpAny_pyIter_enum
abbrev GP:=@wpAny_onRaise
abbrev GK:=@List.sum_cons
abbrev Mm:=@wpAny_pyIter_zip
abbrev Ml:=@Nat.mod_eq_of_lt
abbrev Mj:=@Nat.min_eq_right
abbrev Mi:=@List.mem_toArray
abbrev Ti:=@List.getElem?_replicate
abbrev Mh:=@List.cons_append
abbrev Th:=@wpAny_pyIter_rangeiter
abbrev GJ:=@Nat.zero_add
abbrev GF:=@Nat.pow_succ
abbrev GD:=@Nat.ne_of_gt
abbrev GC:=@Nat.lt_trans
abbrev Tg:=@List.take_of_length_le
abbrev Tf:=@List.drop_of_length_le
abbrev Gz:=@Int.sub_zero
end
namespace L2
open PySem PySem.Spec PyProof.Rows
noncomputable abbrev Key:=Sum Int Str
noncomputable def Y6:Key->Value->Bool
 | .inl k,v=>Value.isInt k v
 | .inr x,v=>Value.isStrOf x v
noncomputable def ae2 (w:World):Key->Int
 | .inl k=>hashInt k
 | .inr x=>hashStr w x
theorem dW:∀{k:Key} {v:Value},Y6 k v=true->(∃i t,k=Sum.inl i/\v=Value.int i t)\/(∃x t,k=Sum.inr x/\v=Value.str x t)
 | .inl i,v,h=>by
  obtain⟨t,e⟩:=Value.isInt_shape (k:=i) (v:=v) h
  exact .inl ⟨i,t,rfl,e⟩
 | .inr x,v,h=>by
  obtain⟨t,e⟩:=Value.isStrOf_shape (x:=x) (v:=v) h
  exact .inr ⟨x,t,rfl,e⟩
theorem aaQ (a b:Int):decide ((Sum.inl a:Key)=Sum.inl b)=(a==b):=by
 by_cases e:a=b
 ·subst e; simp
 ·have h:¬(Sum.inl a:Key)=Sum.inl b:=fun q=>e (Sum.inl.inj q)
  rw[ju h]
  exact(beq_eq_false_iff_ne.mpr e).symm
theorem aaN (a b:Str):decide ((Sum.inr a:Key)=Sum.inr b)=decide (a=b):=by
 by_cases e:a=b
 ·subst e; simp
 ·have h:¬(Sum.inr a:Key)=Sum.inr b:=fun q=>e (Sum.inr.inj q)
  rw[ju h,ju e]
theorem aaP (a:Int) (b:Str):decide ((Sum.inl a:Key)=Sum.inr b)=false:=ju (fun q=>nomatch q)
theorem aaO (a:Str) (b:Int):decide ((Sum.inr a:Key)=Sum.inl b)=false:=ju (fun q=>nomatch q)
noncomputable def M8 (prog:Program) (w:World):PySem.KeyKind prog w Key where
 is:=Y6
 hash:=ae2 w
 inj:=fun v a b ha hb=>by
  rcases dW ha with⟨i,t,rfl,rfl⟩ | ⟨x,t,rfl,rfl⟩
  ·rcases dW hb with⟨j,u,rfl,e⟩ | ⟨y,u,rfl,e⟩
   ·injection e with e1 _; rw[e1]
   ·exact nomatch e
  ·rcases dW hb with⟨j,u,rfl,e⟩ | ⟨y,u,rfl,e⟩
   ·exact nomatch e
   ·injection e with e1 _; rw[e1]
 byValue:=fun k v h=>by
  rcases dW h with⟨i,t,rfl,rfl⟩ | ⟨x,t,rfl,rfl⟩ <;> rfl
 pyHash:=fun hv h=>by
  rcases dW hv with⟨i,t,rfl,rfl⟩ | ⟨x,t,rfl,rfl⟩
  ·exact wpAny_pyHash_int h
  ·exact wpAny_pyHash_str h
 eqBool:=fun hu hv h=>by
  rcases dW hu with⟨i,t,rfl,rfl⟩ | ⟨x,t,rfl,rfl⟩
  ·rcases dW hv with⟨j,u,rfl,rfl⟩ | ⟨y,u,rfl,rfl⟩
   ·rw[aaQ] at h; exact wpAny_eqBool_int h
   ·rw[aaP] at h; exact SeqAt.EqAt.int_str i t y u _ _ _ _ h
  ·rcases dW hv with⟨j,u,rfl,rfl⟩ | ⟨y,u,rfl,rfl⟩
   ·rw[aaO] at h; exact SeqAt.EqAt.str_int x t j u _ _ _ _ h
   ·rw[aaN] at h; exact wpAny_eqBool_str h
 «strs»:=fun k x t v h=>by
  rcases dW h with⟨i,u,rfl,e⟩ | ⟨y,u,rfl,e⟩
  ·exact nomatch e
  ·injection e with e1 _
   subst e1
   cases v <;> rfl
inductive V where
 | non | bl (b:Bool) | int (i:Int) | str (x:Str) | Rp (b:Array UInt8) | flt (b:UInt64) | ref (a:Addr) | ty (n:String)
 deriving DecidableEq
noncomputable def RelV:V->Value->Prop
 | .non,u=>u=Value.none
 | .bl b,u=>u=Value.bool b
 | .int i,u=>∃t,u=Value.int i t
 | .str x,u=>∃t,u=Value.str x t
 | .Rp b,u=>∃t,u=Value.bytes b t
 | .flt b,u=>∃t,u=Value.float b t
 | .ref a,u=>u=Value.ref a
 | .ty n,u=>u=Value.type n
noncomputable abbrev Vals:List V->List Value->Prop:=Paired RelV
theorem Vals.length {xs:List V} {us:List Value} (r:Vals xs us):xs.length=us.length:=Paired.length r
theorem Vals.get:∀{xs:List V} {us:List Value} {i:Nat} {x:V},Vals xs us->xs[i]?=some x->∃u,us[i]?=some u/\RelV x u
 | _,_,_,_,.nil,e=>by simp at e
 | _,_,0,_,.cons r _,e=>by simp at e; subst e; exact⟨_,rfl,r⟩
 | _,_,i+1,x,.cons _ t,e=>by
  obtain⟨u,h1,h2⟩:=Vals.get (i:=i) (x:=x) t (by simpa using e)
  exact⟨u,by simpa using h1,h2⟩
theorem Vals.set {x:V} {u:Value} (r:RelV x u):∀{xs:List V} {us:List Value} (i:Nat),Vals xs us->Vals (xs.set i x) (us.set i u)
 | _,_,_,.nil=>.nil
 | _,_,0,.cons _ t=>.cons r t
 | _,_,i+1,.cons q t=>.cons q (Vals.set r i t)
theorem Vals.append:∀{xs ys:List V} {us ws:List Value},Vals xs us->Vals ys ws->Vals (xs++ys) (us++ws)
 | _,_,_,_,.nil,s=>s
 | _,_,_,_,.cons r t,s=>.cons r (Vals.append t s)
theorem Vals.take:∀{xs:List V} {us:List Value} (n:Nat),Vals xs us->Vals (xs.take n) (us.take n)
 | _,_,0,_=>.nil
 | _,_,_+1,.nil=>.nil
 | _,_,n+1,.cons r t=>.cons r (Vals.take n t)
theorem Vals.drop:∀{xs:List V} {us:List Value} (n:Nat),Vals xs us->Vals (xs.drop n) (us.drop n)
 | _,_,0,r=>r
 | _,_,_+1,.nil=>.nil
 | _,_,n+1,.cons _ t=>Vals.drop n t
noncomputable def Ra:Option V->Option Value->Prop
 | some v,some u=>RelV v u
 | none,none=>True
 | _,_=>False
noncomputable def KV {κ:Type}:List (κ×V)->List (κ×Value)->Prop:=Paired fun(p:κ×V) (q:κ×Value)=>p.1=q.1/\RelV p.2 q.2
noncomputable def kV:Key->V
 | .inl i=>.int i
 | .inr x=>.str x
inductive HO where
 | lst (xs:List V)
 | tup (xs:List V)
 | dK (kvs:List (Key×V)) | dT (kvs:List (List Key×V))
 | set (S:Int->Bool) (n:Nat)
 | ins (C dx:Addr) (fs:List (Str×V))
 | own (x:Addr)
 | xd (fs:List (Str×V))
 | met (f x:Addr)
 | Wu (lo hi:Int)
 | Fl (o:Obj) (u:HO)
 | Yp (ps:Array Value)
 | ext (φ:Heap->Prop)
noncomputable abbrev Hp:=Addr->Option HO
noncomputable def upd (H:Hp) (a:Addr) (o:HO):Hp:=fun b=>if b=a then some o else H b
theorem aC {H:Hp} {a:Addr} {o:HO}:upd H a o a=some o:=by unfold upd; rw[aP rfl]
theorem aR {H:Hp} {a b:Addr} {o:HO} (h:b≠a):upd H a o b=H b:=by unfold upd; rw[bB h]
theorem bQ {H:Hp} {a b:Addr} {o:HO} (h:H a=some o) (h':H b=none):a≠b:=by
 intro e; subst e; rw[h] at h'; cases h'
section
variable (P:Program) (w:World)
noncomputable def cz (H:Hp) (h:Heap) (a:Addr):HO->Prop
 | .lst xs=>xs.length<=sizeLine/\∃(its:List Value) (n:Nat),Vals xs its/\h.get? a=some { cls:=.type "list",data:=.seq its.toArray n }
 | .tup xs=>xs.length<=sizeLine/\∃its:List Value,Vals xs its/\IsTup h a its.toArray
 | .dK kvs=>kvs.length<=sizeLine/\(a==sysModules)=false/\∃vs,KV kvs vs/\h.DictOf (M8 P w) a vs
 | .dT kvs=>kvs.length<=sizeLine/\(a==sysModules)=false/\∃xs:List (List Key×Addr×Value),
   Paired (fun(p:List Key×V) (q:List Key×Addr×Value)=>p.1=q.1/\H q.2.1=some (.tup (p.1.map kV))/\RelV p.2 q.2.2) kvs xs /\
   ∃o es ep,h.get? a=some o/\o.ExactDict/\o.data=.dict es ep/\es.toList=xs.map (entryOfKey (tupleKind (M8 P w)))/\(xs.map (·.1)).Nodup
 | .set S n=>h.SetOf (intKind P w) a S n
 | .ins C dx fs=>H dx=some (.own a)/\fs.length<=1000/\dx≠a/\h.get? a=some (PySem.W.instObj C dx) /\
   ∃mA,h.Ns1 dx mA/\(∀f,Ra (fs.lookup f) (mA f))/\PySem.Within mA (fs.map (·.1))
 | .own _=>∃o,h.get? a=some o
 | .xd fs=>∃mA,h.Ns1 a mA/\∀f,Ra (fs.lookup f) (mA f)
 | .Wu lo hi=>∃t u v,h.get? a=some { cls:=.type "range",data:=.fields #[.int lo t,.int hi u,.int 1 v] }
 | .Fl o u=>h.get? a=some o/\cz H h a u
 | .Yp ps=>h.get? a=some { cls:=.none,data:=.fields ps }
 | .met f x=>h.get? a=some (PySem.W.methodObj (.ref f) (.ref x))
 | .ext φ=>φ h/\(∃o,h.get? a=some o)/\∀h1 h2:Heap,φ h1->(∀o,h1.get? a=some o->h2.get? a=some o)->φ h2
noncomputable def lZ (H:Hp) (h:Heap):Prop:=∀a o,H a=some o->cz P w H h a o
end
section
variable {P:Program} {w:World} {H H':Hp} {h h':Heap} {a:Addr} {o:HO}
theorem cz.lt (x:cz P w H h a o):a<h.objs.size:=by
 cases o with
 | lst xs=>obtain⟨_,_,_,_,e⟩:=x; exact cC e
 | tup xs=>obtain⟨_,_,_,p⟩:=x; exact p.lt
 | dK kvs=>obtain⟨_,_,_,_,o,_,_,e,_⟩:=x; exact cC e
 | dT kvs=>obtain⟨_,_,_,_,o,_,_,e,_⟩:=x; exact cC e
 | set S n=>obtain⟨o,_,_,_,e,_⟩:=x; exact cC e
 | ins C dx fs=>obtain⟨_,_,_,e,_⟩:=x; exact cC e
 | own y=>obtain⟨_,e⟩:=x; exact cC e
 | xd fs=>obtain⟨_,⟨_,_,_,e,_⟩,_⟩:=x; exact cC e
 | Wu lo hi=>obtain⟨_,_,_,e⟩:=x; exact cC e
 | Fl ob u=>obtain⟨e,_⟩:=x; exact cC e
 | Yp ps=>exact cC (show h.get? a=some _ from x)
 | met f y=>exact cC (show h.get? a=some _ from x)
 | ext φ=>obtain⟨_,⟨_,e⟩,_⟩:=x; exact cC e
theorem Paired.Xh {α β:Type} {F G:α->β->Prop}:∀{l₁:List α} {l₂:List β},Paired F l₁ l₂->(∀a b,F a b->G a b)->Paired G l₁ l₂
 | _,_,.nil,_=>.nil
 | _,_,.cons r t,f=>.cons (f _ _ r) (Paired.Xh t f)
theorem cz.stay (x:cz P w H h a o) (k:∀b u,(b=a\/H b=some (.own a))->h.get? b=some u->h'.get? b=some u)
  (ho:∀b,H b=some (.own a)->H' b=some (.own a)) (ht:∀b xs,H b=some (.tup xs)->H' b=some (.tup xs)):cz P w H' h' a o:=by
 induction o with
 | lst xs=>obtain⟨z,its,n,r,e⟩:=x; exact⟨z,its,n,r,k _ _ (.inl rfl) e⟩
 | tup xs=>obtain⟨z,its,r,ob,e,c⟩:=x; exact⟨z,its,r,ob,k _ _ (.inl rfl) e,c⟩
 | dK kvs=>obtain⟨z,y,vs,r,ob,es,ep,e,c⟩:=x; exact⟨z,y,vs,r,ob,es,ep,k _ _ (.inl rfl) e,c⟩
 | dT kvs=>
  obtain⟨z,y,xs,r,ob,es,ep,e,c⟩:=x
  exact⟨z,y,xs,Paired.Xh r fun p q z=>⟨z.1,ht _ _ z.2.1,z.2.2⟩,ob,es,ep,k _ _ (.inl rfl) e,c⟩
 | set S n=>obtain⟨ob,es,ep,t,e,c⟩:=x; exact⟨ob,es,ep,t,k _ _ (.inl rfl) e,c⟩
 | ins C dx fs=>
  obtain⟨d,z,ne,e,mA,⟨od,es,ep,e2,c⟩,r⟩:=x
  exact⟨ho _ d,z,ne,k _ _ (.inl rfl) e,mA,⟨od,es,ep,k _ _ (.inr d) e2,c⟩,r⟩
 | own y=>obtain⟨ob,e⟩:=x; exact⟨ob,k _ _ (.inl rfl) e⟩
 | xd fs=>obtain⟨mA,⟨od,es,ep,e,c⟩,r⟩:=x; exact⟨mA,⟨od,es,ep,k _ _ (.inl rfl) e,c⟩,r⟩
 | Wu lo hi=>obtain⟨t,u,v,e⟩:=x; exact⟨t,u,v,k _ _ (.inl rfl) e⟩
 | Fl ob u ih=>obtain⟨e,q⟩:=x; exact⟨k _ _ (.inl rfl) e,ih q⟩
 | Yp ps=>
  have e:h.get? a=some { cls:=.none,data:=.fields ps }:=x
  show h'.get? a=some { cls:=.none,data:=.fields ps }
  exact k a _ (.inl rfl) e
 | met f y=>
  have e:h.get? a=some (PySem.W.methodObj (.ref f) (.ref y)):=x
  show h'.get? a=some (PySem.W.methodObj (.ref f) (.ref y))
  exact k a _ (.inl rfl) e
 | ext φ=>obtain⟨p,⟨o,e⟩,st⟩:=x; exact⟨st _ _ p fun o q=>k _ _ (.inl rfl) q,⟨o,k _ _ (.inl rfl) e⟩,st⟩
theorem lZ.lt (x:lZ P w H h) (e:H a=some o):a<h.objs.size:=(x a o e).lt
theorem lZ.fresh (x:lZ P w H h) (e:h.objs.size<=a):H a=none:=by
 cases q:H a with
 | none=>rfl
 | some u=>exact absurd (jU (x.lt q) e) (tM _)
theorem lZ.kept (x:lZ P w H h) (k:∀b u,h.get? b=some u->h'.get? b=some u):lZ P w H h':=fun a o e=>
 (x a o e).stay (fun b u _ q=>k b u q) (fun _ q=>q) fun _ _ q=>q
theorem lZ.laid (x:lZ P w H h) (k:∀b u,h.get? b=some u->h'.get? b=some u) (hp:h.objs.size<=a) (new:cz P w (upd H a o) h' a o):lZ P w (upd H a o) h':=fun b u e=>by
 have hn:=x.fresh hp
 by_cases hb:b=a
 ·subst hb; rw[aC] at e; cases e; exact new
 ·rw[aR hb] at e
  exact(x b u e).stay (fun c v _ q=>k c v q) (fun c q=>by rw[aR (bQ q hn)]; exact q) fun c xs q=>by rw[aR (bQ q hn)]; exact q
end
noncomputable def Rd (H:Hp) (a:Addr) (u:HO):Prop:=H a=some u\/∃o,H a=some (.Fl o u)
theorem Rd.ok {P:Program} {w:World} {H:Hp} {h:Heap} {a:Addr} {u:HO} (r:Rd H a u) (x:lZ P w H h):cz P w H h a u:=by
 rcases r with r | ⟨o,r⟩
 ·exact x a u r
 ·obtain⟨_,q⟩:=x a _ r
  exact q
noncomputable def Mut:Option HO->Prop
 | some (.lst _)=>True
 | some (.dK _)=>True
 | some (.dT _)=>True
 | some (.set _ _)=>True
 | some (.ins _ _ _)=>True
 | some (.ext _)=>True
 | _=>False
section
variable {P:Program} {w:World} {H:Hp} {h h':Heap} {x e:Addr} {o':HO}
theorem lZ.write (ok:lZ P w H h) (mu:Mut (H x)) (he:e=x\/H e=some (.own x)) (k:∀b u,b≠e->h.get? b=some u->h'.get? b=some u) (heo:∃u,h'.get? e=some u)
  (new:cz P w (upd H x o') h' x o'):lZ P w (upd H x o') h':=fun b u q=>by
 have ac1:∀c y,H c=some (.own y)->c≠x:=fun c y r z=>by subst z; rw[r] at mu; exact mu
 have aeS:∀c xs,H c=some (.tup xs)->c≠x:=fun c xs r z=>by subst z; rw[r] at mu; exact mu
 by_cases hb:b=x
 ·subst hb; rw[aC] at q; cases q; exact new
 ·rw[aR hb] at q
  by_cases hbe:b=e
  ·have q':H b=some (.own x):=by
    rcases he with z | z
    ·exact absurd (hbe.trans z) hb
    ·rw[hbe]; exact z
   rw[q] at q'; cases q'
   obtain⟨v,hv⟩:=heo
   exact⟨v,by rw[hbe]; exact hv⟩
  ·refine(ok b u q).stay (fun c v hc r=>k c v ?_ r) (fun c r=>by rw[aR (ac1 c b r)]; exact r) fun c xs r=>by rw[aR (aeS c xs r)]; exact r
   rcases hc with rfl | hc
   ·exact hbe
   ·rintro rfl
    rcases he with z | z
    ·exact ac1 c b hc z
    ·rw[hc] at z; cases z; exact hb rfl
end
structure Un (fs ex:List Addr) (H H':Hp) (h h':Heap):Prop where
 keep:∀b o,h.get? b=some o->H b=none->b∉fs->b∉ex->h'.get? b=some o
 slot:∀b o,h.get? b=some o->H b=none->b∈fs->b∉ex->∃sl,h'.get? b=some { o with slots:=sl }
 free:∀b o,h.get? b=some o->H b=none->b∉ex->H' b=none
 there:∀b o,h.get? b=some o->b∉ex->∃o',h'.get? b=some o'
 tups:∀b xs,H b=some (.tup xs)->H' b=some (.tup xs)
 yf:∀b o u,H b=some (.Fl o u)->H' b=some (.Fl o u)
 yR:∀b ps,H b=some (.Yp ps)->∃more,H' b=some (.Yp (ps++more))
section
variable {fs fs' ex ex':List Addr} {H H1 H2:Hp} {h h1 h2 h':Heap} {a x e:Addr} {o:HO}
theorem Un.any (u:Un fs ex H H1 h h1) {b:Addr} {ob:Obj} (q:h.get? b=some ob) (n:H b=none) (hx:b∉ex):∃sl,h1.get? b=some { ob with slots:=sl }:=by
 by_cases hb:b∈fs
 ·exact u.slot b ob q n hb hx
 ·exact⟨ob.slots,u.keep b ob q n hb hx⟩
theorem Un.kept (k:∀b u,h.get? b=some u->h'.get? b=some u):Un fs ex H H h h':=
 ⟨fun b ob q _ _ _=>k b ob q,fun b ob q _ _ _=>⟨ob.slots,k b ob q⟩,fun _ _ _ n _=>n,fun b ob q _=>⟨ob,k b ob q⟩,fun _ _ q=>q,fun _ _ _ q=>q,fun _ ps q=>⟨#[],by rw[q]; simp⟩⟩
theorem Un.refl:Un fs ex H H h h:=Un.kept fun _ _ q=>q
theorem Un.laid (k:∀b u,h.get? b=some u->h'.get? b=some u) (hp:h.objs.size<=a) (hn:H a=none):Un fs ex H (upd H a o) h h' where
 keep:=fun b u q _ _ _=>k b u q
 slot:=fun b u q _ _ _=>⟨u.slots,k b u q⟩
 free:=fun b u q n _=>by rw[aR (gw (jU (cC q) hp))]; exact n
 there:=fun b u q _=>⟨u,k b u q⟩
 tups:=fun b xs q=>by rw[aR (bQ q hn)]; exact q
 yf:=fun b u xs q=>by rw[aR (bQ q hn)]; exact q
 yR:=fun b ps q=>⟨#[],by rw[aR (bQ q hn),q]; simp⟩
theorem Un.write (mu:Mut (H x)) (he:e=x\/H e=some (.own x)) (k:∀b u,b≠e->h.get? b=some u->h'.get? b=some u) (heo:∃u,h'.get? e=some u):Un fs ex H (upd H x o) h h':=by
 have hx:∀b,H b=none->b≠x:=fun b n z=>by subst z; rw[n] at mu; exact mu
 have hb:∀b,H b=none->b≠e:=fun b n z=>by
  subst z
  rcases he with r | r
  ·exact hx b n r
  ·rw[n] at r; cases r
 have hm:∀b u,H b=some u->¬Mut (some u)->b≠x:=fun b u q nm z=>by subst z; rw[q] at mu; exact nm mu
 refine⟨fun b u q n _ _=>k b u (hb b n) q,fun b u q n _ _=>⟨u.slots,k b u (hb b n) q⟩,fun b u q n _=>by rw[aR (hx b n)]; exact n,fun b u q _=>?_,
  fun b xs q=>by rw[aR (hm b _ q fun z=>z)]; exact q,fun b u xs q=>by rw[aR (hm b _ q fun z=>z)]; exact q,fun b ps q=>⟨#[],by rw[aR (hm b _ q fun z=>z),q]; simp⟩⟩
 by_cases hbe:b=e
 ·subst hbe; exact heo
 ·exact⟨u,k b u hbe q⟩
end
noncomputable def trk (h:Heap) (H:Hp):List Addr:=(List.range h.objs.size).filter fun a=>(H a).isSome
noncomputable def D_ (h:Heap) (H:Hp):Heap:=PySem.W.hideAll h (trk h H)
theorem QF (h:Heap) (H:Hp):(D_ h H).objs.size=h.objs.size:=PySem.W.hideAll_size _ _
theorem UL {h:Heap} {H:Hp} {b:Addr} {o:Obj} (e:h.get? b=some o) (n:H b=none):(D_ h H).get? b=some o:=
 PySem.W.hideAll_get _ e fun hm=>by
  have q:(H b).isSome=true:=(List.mem_filter.mp hm).2
  rw[n] at q; simp at q
theorem W9 {h:Heap} {H:Hp} {b:Addr} {o:Obj} (e:(D_ h H).get? b=some o):h.get? b=some o/\H b=none:=by
 have e':h.get? b=some o:=PySem.W.of_hideAll (trk h H) e
 refine⟨e',?_⟩
 cases q:H b with
 | none=>rfl
 | some x=>
  have hm:b∈trk h H:=List.mem_filter.mpr ⟨Di.mpr (cC e'),by simp[q]⟩
  have z:(D_ h H).get? b=none:=PySem.W.hideAll_none (trk h H) hm
  rw[z] at e; cases e
noncomputable def X5 (g h:Heap) (L:Addr):List (Addr×Obj):=(List.range h.objs.size).filterMap fun a=>if a=L\/(g.get? a).isSome=true then none else(h.get? a).map fun o=>(a,o)
noncomputable def rest (g h:Heap) (L d:Addr):List (Addr×Obj):=(X5 g h L).filter fun p=>decide (p.1≠d)
structure Mod (K:PySem.W.Frag) (mg:Str->Option Value) (base:Heap):Prop where
 Xz:K.In base
 glob:base.Ns mainGlobals mg
 blt:∃mb,base.Ns builtinsNs mb/\∀x:Str,x ≠ "__name__" -> mb x=bootBuiltins x
 nolimit:base.NoLimit
structure Cx where
 prog:Program
 w:World
 K:PySem.W.Frag
 mg:Str->Option Value
 base:Heap
 A:Around
 N:List Str
 s₀:Shared
 H₀:Hp
 env:Env
 outer:List Env
 stack:List Env
 ex:List Addr
 fn:Str->Bool
 calm:Bool
 pn:List (Addr×Obj)
 xe:Value->Shared->Prop
noncomputable def frs (l:List Env):List Addr:=l.filterMap (·.frame)
noncomputable abbrev Cx.fs (X:Cx):List Addr:=frs X.outer
noncomputable def Vis (sc:Scope) (x:Str):Prop:=sc.names.lookup x=some .local\/sc.names.lookup x=some .cell\/sc.names.lookup x=some .free
noncomputable def Loc (sc:Scope) (x:Str):Prop:=sc.names.lookup x=some .local\/sc.names.lookup x=some .cell
noncomputable def Look (env:Env) (h:Heap) (m:Str->Option Value) (x:Str) (u:Value):Prop:=
 (env.kindOf x=some .local/\m x=some u)\/((env.kindOf x=some .cell\/env.kindOf x=some .free)/\∃c,env.cells.lookup x=some c/\h.IsCell c (some u))
structure Cx.Ok (X:Cx):Prop where
 mod:Mod X.K X.mg X.base
 kind:X.env.scope.kind=.function
 glob:X.env.globals=mainGlobals
 blt:X.env.builtins=builtinsNs
 above:X.s₀.heap.objs.size<=X.env.locals
 inj:∀x y c,X.env.cells.lookup x=some c->X.env.cells.lookup y=some c->x=y
 has:∀x,(X.env.kindOf x=some .cell\/X.env.kindOf x=some .free)->∃c,X.env.cells.lookup x=some c
 cab:∀x c,X.fn x=true->X.env.cells.lookup x=some c->X.s₀.heap.objs.size<=c
 hd:X.calm=true->X.A.handled=none
 frames:X.A.frames=some X.stack
 stk:X.stack=X.outer\/(X.stack=X.env::X.outer/\X.env.frame=some X.env.locals)
 exf:∀b∈X.ex,b≠X.env.locals/\∀x c,X.env.cells.lookup x=some c->c≠b
 bs:∀b o,X.base.get? b=some o->X.s₀.heap.get? b=some o/\X.H₀ b=none
 Rq:X.base.objs.size<=X.s₀.heap.objs.size
 Hr:∀b o,X.base.get? b=some o->b∉X.ex
 Kr:∀b∈X.ex,b∉X.fs
 uU:X.s₀.heap.FunFrames X.base X.outer
 frf:∀b∈X.fs,X.H₀ b=none
structure Inv (X:Cx) (pins:List (Addr×Obj)) (σ:List (Option V)) (H:Hp) (s:Shared):Prop where
 ok:X.Ok
 os:s.os=X.s₀.os
 bare:AllBare s.gens
 base:Un X.fs X.ex X.H₀ H X.s₀.heap s.heap
 loc:∃m,s.heap.Ns X.env.locals m/\∀(i:Nat) (x:Str) (v:V),X.N[i]?=some x->σ[i]?=some (some v)->Vis X.env.scope x->∃u,RelV v u/\Look X.env s.heap m x u
 cell:∀x c,X.env.cells.lookup x=some c->∃v,s.heap.IsCell c v
 free:H X.env.locals=none
 j6:∀x c,X.env.cells.lookup x=some c->H c=none
 pin:∀p∈X.pn++pins,s.heap.get? p.1=some p.2/\H p.1=none/\p.1≠X.env.locals/\p.1∉X.fs/\∀v,p.2.data≠.cell v
 hok:lZ X.prog X.w H s.heap
 len:σ.length=X.N.length
section
variable {X:Cx} {pins:List (Addr×Obj)} {σ:List (Option V)} {H H':Hp} {s:Shared} {h':Heap}
theorem Cx.Ok.aeU (ok:X.Ok) {b:Addr} {o:Obj} (e:X.base.get? b=some o):b∉X.fs:=fun hb=>by
 have:=(ok.uU.mem hb).1
 rw[e] at this; cases this
theorem Inv.bs (I:Inv X pins σ H s):∀b o,X.base.get? b=some o->s.heap.get? b=some o/\H b=none:=fun b o e=>
 ⟨I.base.keep b o (I.ok.bs b o e).1 (I.ok.bs b o e).2 (I.ok.aeU e) (I.ok.Hr b o e),I.base.free b o (I.ok.bs b o e).1 (I.ok.bs b o e).2 (I.ok.Hr b o e)⟩
theorem Inv.bk (I:Inv X pins σ H s):∀b o,X.base.get? b=some o->s.heap.get? b=some o:=fun b o e=>(I.bs b o e).1
theorem Inv.mod (I:Inv X pins σ H s):Mod X.K X.mg X.base:=I.ok.mod
theorem Inv.oE (I:Inv X pins σ H s):X.K.In s.heap:=I.ok.mod.Xz.keeps I.bk
theorem Inv.fr (I:Inv X pins σ H s):∃m,Fr X.base X.env.locals s.heap m:=
 let ⟨m,hn,_⟩:=I.loc
 ⟨m,hn,I.bk,n_ I.ok.Rq I.ok.above⟩
theorem Inv.lt (I:Inv X pins σ H s):X.env.locals<s.heap.objs.size:=let ⟨_,hn,_⟩:=I.loc; hn.lt
theorem Inv.sz (I:Inv X pins σ H s):X.s₀.heap.objs.size<=s.heap.objs.size:=n_ I.ok.above (jt I.lt)
theorem Inv.aeT (I:Inv X pins σ H s) {a:Addr} (h:s.heap.objs.size<=a):a∉X.fs:=fun hb=>by
 obtain⟨_,o,ho,_⟩:=I.ok.uU.mem hb
 exact absurd (jU (cC ho) (n_ I.sz h)) (tM _)
theorem Inv.XS (I:Inv X pins σ H s):∀x c,X.env.cells.lookup x=some c->c≠X.env.locals:=fun x c e z=>by
 obtain⟨v,o,ho,hd⟩:=I.cell x c e
 obtain⟨m,⟨o',es,ep,ho',hd',_⟩,_⟩:=I.loc
 rw[z,ho'] at ho; cases ho; rw[hd'] at hd; cases hd
theorem Inv.uU (I:Inv X pins σ H s):s.heap.FunFrames X.base X.outer:=by
 have all:∀(l:List Env),(∀b∈frs l,b∈X.fs)->X.s₀.heap.FunFrames X.base l->s.heap.FunFrames X.base l:=by
  intro l
  induction l with
  | nil=>intro _ _; trivial
  | cons env r ih=>
   intro hs hl
   obtain⟨hk,⟨L,o,hf,hn,ho,hd⟩,hr⟩:=hl
   have hL:L∈X.fs:=hs L (by unfold frs; rw[Px,hf]; exact jT)
   obtain⟨sl,e⟩:=I.base.slot L o ho (I.ok.frf L hL) hL fun z=>I.ok.Kr L z hL
   exact⟨hk,⟨L,_,hf,hn,e,hd⟩,ih (fun b hb=>hs b (by unfold frs; rw[Px,hf]; exact jx _ hb)) hr⟩
 exact all X.outer (fun _ hb=>hb) I.ok.uU
theorem Inv.stack (I:Inv X pins σ H s):s.heap.FunFrames X.base X.stack:=by
 rcases I.ok.stk with e | ⟨e,hf⟩
 ·rw[e]; exact I.uU
 ·rw[e]
  obtain⟨m,hn,_⟩:=I.loc
  refine .cons (by rw[I.ok.kind]; decide) hf hn ?_ I.uU
  exact Heap.get?_none_of_le (n_ I.ok.Rq I.ok.above)
theorem Inv.Ji (I:Inv X pins σ H s):∀b∈frs X.stack,b∈X.env.locals::X.fs:=fun b hb=>by
 rcases I.ok.stk with e | ⟨e,hf⟩
 ·rw[e] at hb; exact jx _ hb
 ·rw[e] at hb
  unfold frs at hb
  rw[Px,hf] at hb
  exact hb
theorem Inv.u_ (I:Inv X pins σ H s):∀b∈frs X.stack,H b=none:=fun b hb=>by
 rcases bU.mp (I.Ji b hb) with e | hb
 ·rw[e]; exact I.free
 ·obtain⟨_,o,ho,_⟩:=I.ok.uU.mem hb
  exact I.base.free b o ho (I.ok.frf b hb) fun z=>I.ok.Kr b z hb
theorem Inv.step {g':Array GenState} {t':Nat} {d':Drawn} {ch:List Addr} (I:Inv X pins σ H s)
  (hch:∀b∈ch,(b∈X.ex\/X.s₀.heap.objs.size<=b)/\b≠X.env.locals/\(∀x c,X.env.cells.lookup x=some c->c≠b)/\∀p∈X.pn++pins,p.1≠b)
  (keep:∀b o,b≠X.env.locals->b∉X.fs->b∉ch->s.heap.get? b=some o->H b=none->h'.get? b=some o)
  (slot:∀b o,b≠X.env.locals->b∈X.fs->b∉ch->s.heap.get? b=some o->H b=none->∃sl,h'.get? b=some { o with slots:=sl }) (free:∀b o,b∉ch->s.heap.get? b=some o->H b=none->H' b=none)
  (there:∀b o,b∉ch->s.heap.get? b=some o->∃o',h'.get? b=some o')
  (tups:∀b xs,H b=some (.tup xs)->H' b=some (.tup xs)) (yf:∀b o u,H b=some (.Fl o u)->H' b=some (.Fl o u)) (yR:∀b ps,H b=some (.Yp ps)->∃more,H' b=some (.Yp (ps++more)))
  (ns:∀m,s.heap.Ns X.env.locals m->h'.Ns X.env.locals m) (hok:lZ X.prog X.w H' h') (hg:AllBare g') :
  Inv X pins σ H' { s with heap:=h',gens:=g',drawn:=d',toks:=t' }:=by
 have neL:∀b o,X.s₀.heap.get? b=some o->b≠X.env.locals:=fun b o e=>gw (jU (cC e) I.ok.above)
 have neC:∀b o,X.s₀.heap.get? b=some o->b∉X.ex->b∉ch:=fun b o e hx hb=>by
  rcases(hch b hb).1 with z | z
  ·exact hx z
  ·exact absurd (jU (cC e) z) (tM _)
 have cellK:∀x c,X.env.cells.lookup x=some c->∀v,s.heap.IsCell c v->h'.IsCell c v:=fun x c e v ⟨o,ho,hd⟩=>by
  have nch:c∉ch:=fun z=>(hch c z).2.2.1 x c e rfl
  by_cases hc:c∈X.fs
  ·obtain⟨sl,q⟩:=slot c o (I.XS x c e) hc nch ho (I.j6 x c e)
   exact⟨_,q,hd⟩
  ·exact⟨o,keep c o (I.XS x c e) hc nch ho (I.j6 x c e),hd⟩
 refine⟨I.ok,I.os,hg,⟨fun b o e n hb hx=>?_,fun b o e n hb hx=>?_,fun b o e n hx=>?_,fun b o e hx=>?_,fun b xs e=>tups b xs (I.base.tups b xs e),fun b o xs e=>yf b o xs (I.base.yf b o xs e),fun b ps e=>?_⟩,?_,fun x c e=>?_,?_,fun x c e=>?_,fun p hp=>?_,hok,I.len⟩
 ·exact keep b o (neL b o e) hb (neC b o e hx) (I.base.keep b o e n hb hx) (I.base.free b o e n hx)
 ·obtain⟨sl,e1⟩:=I.base.slot b o e n hb hx
  obtain⟨sl',e2⟩:=slot b _ (neL b o e) hb (neC b o e hx) e1 (I.base.free b o e n hx)
  exact⟨sl',e2⟩
 ·obtain⟨o',e1⟩:=I.base.there b o e hx
  exact free b o' (neC b o e hx) e1 (I.base.free b o e n hx)
 ·obtain⟨o',e1⟩:=I.base.there b o e hx
  exact there b o' (neC b o e hx) e1
 ·obtain⟨m1,e1⟩:=I.base.yR b ps e
  obtain⟨m2,e2⟩:=yR b _ e1
  exact⟨m1++m2,by rw[e2,Array.append_assoc]⟩
 ·obtain⟨m,hn,hl⟩:=I.loc
  refine⟨m,ns m hn,fun i x v e1 e2 e3=>?_⟩
  obtain⟨u,r,l⟩:=hl i x v e1 e2 e3
  refine⟨u,r,?_⟩
  rcases l with l | ⟨k,c,e,z⟩
  ·exact .inl l
  ·exact .inr ⟨k,c,e,cellK x c e _ z⟩
 ·obtain⟨v,z⟩:=I.cell x c e
  exact⟨v,cellK x c e v z⟩
 ·obtain⟨m,⟨o,_,_,ho,_⟩,_⟩:=I.loc
  exact free _ o (fun z=>(hch _ z).2.1 rfl) ho I.free
 ·obtain⟨v,o,ho,hd⟩:=I.cell x c e
  exact free c o (fun z=>(hch c z).2.2.1 x c e rfl) ho (I.j6 x c e)
 ·obtain⟨e,n,ne,nf,d⟩:=I.pin p hp
  have nch:p.1∉ch:=fun z=>(hch p.1 z).2.2.2 p hp rfl
  exact⟨keep p.1 p.2 ne nf nch e n,free p.1 p.2 nch e n,ne,nf,d⟩
theorem Inv.un {t':Nat} (I:Inv X pins σ H s) (u:Un X.fs [] H H' s.heap h') (hok:lZ X.prog X.w H' h'):Inv X pins σ H' { s with heap:=h',toks:=t' }:=by
 obtain⟨m,⟨o,es,ep,ho,r⟩,_⟩:=id I.loc
 obtain⟨sl,hL⟩:=u.any ho I.free (by simp)
 exact I.step (g':=s.gens) (d':=s.drawn) (ch:=[]) (fun _ z=>nomatch z) (fun b o _ hb _ e n=>u.keep b o e n hb (by simp)) (fun b o _ hb _ e n=>u.slot b o e n hb (by simp)) (fun b o _ e n=>u.free b o e n (by simp)) (fun b o _ e=>u.there b o e (by simp)) u.tups u.yf u.yR (fun m' hm=>by
  obtain⟨o',es',ep',ho',r'⟩:=hm
  rw[ho] at ho'; cases ho'
  exact⟨_,es',ep',hL,r'⟩) hok I.bare
theorem Inv.call {g':Array GenState} {t':Nat} {d':Drawn} {ch:List Addr} (I:Inv X pins σ H s) (u:Un (frs X.stack) ch H H' s.heap h') (hok:lZ X.prog X.w H' h') (hg:AllBare g')
  (hch:∀b∈ch,(b∈X.ex\/X.s₀.heap.objs.size<=b)/\b≠X.env.locals/\(∀x c,X.env.cells.lookup x=some c->c≠b)/\∀p∈X.pn++pins,p.1≠b) :
  Inv X pins σ H' { s with heap:=h',gens:=g',drawn:=d',toks:=t' }:=by
 obtain⟨m,⟨o,es,ep,ho,r⟩,_⟩:=id I.loc
 obtain⟨sl,hL⟩:=u.any ho I.free fun z=>(hch _ z).2.1 rfl
 exact I.step (ch:=ch) hch (fun b o hL hb hc e n=>u.keep b o e n (fun z=>(bU.mp (I.Ji b z)).elim hL hb) hc) (fun b o _ _ hc e n=>u.any e n hc) (fun b o hc e n=>u.free b o e n hc) (fun b o hc e=>u.there b o e hc) u.tups u.yf u.yR (fun m' hm=>by
  obtain⟨o',es',ep',ho',r'⟩:=hm
  rw[ho] at ho'; cases ho'
  exact⟨_,es',ep',hL,r'⟩) hok hg
theorem Inv.turned {t':Nat} {it:Addr} (I:Inv X pins σ H s) (k:∀b o,b≠it->s.heap.get? b=some o->h'.get? b=some o) (hn:H it=none) (hL:it≠X.env.locals)
  (h1:it∈X.ex\/X.s₀.heap.objs.size<=it) (h2:∀x c,X.env.cells.lookup x=some c->c≠it) (h3:∀p∈X.pn++pins,p.1≠it):Inv X pins σ H { s with heap:=h',toks:=t' }:=by
 have nit:∀b u,H b=some u->b≠it:=fun b u e z=>by rw[z,hn] at e; cases e
 refine I.step (g':=s.gens) (d':=s.drawn) (ch:=[it]) (fun b hb=>?_) (fun b o _ _ hc e _=>k b o (fun z=>hc (by simp[z])) e) (fun b o _ _ hc e _=>⟨o.slots,k b o (fun z=>hc (by simp[z])) e⟩) (fun _ _ _ _ n=>n)
  (fun b o hc e=>⟨o,k b o (fun z=>hc (by simp[z])) e⟩) (fun _ _ e=>e) (fun _ _ _ e=>e) (fun b ps e=>⟨#[],by rw[e]; simp⟩) (fun m hm=>?_) (fun b u e=>?_) I.bare
 ·have e:b=it:=by simpa using hb
  subst e
  exact⟨h1,hL,h2,h3⟩
 ·obtain⟨o,es,ep,ho,r⟩:=hm
  exact⟨o,es,ep,k _ o (Ne.symm hL) ho,r⟩
 ·refine(I.hok b u e).stay (fun c v hc q=>k c v ?_ q) (fun _ q=>q) fun _ _ q=>q
  rcases hc with z | z
  ·rw[z]; exact nit b u e
  ·exact nit c _ z
theorem Inv.tok (I:Inv X pins σ H s) (t:Nat):Inv X pins σ H { s with toks:=t }:=I.un (h':=s.heap) (t':=t) Un.refl I.hok
theorem Inv.kept {t':Nat} (I:Inv X pins σ H s) (k:∀b u,s.heap.get? b=some u->h'.get? b=some u):Inv X pins σ H { s with heap:=h',toks:=t' }:=I.un (Un.kept k) (I.hok.kept k)
theorem Inv.laid {a:Addr} {o:HO} {t':Nat} (I:Inv X pins σ H s) (k:∀b u,s.heap.get? b=some u->h'.get? b=some u) (hp:s.heap.objs.size<=a) (new:cz X.prog X.w (upd H a o) h' a o) :
  Inv X pins σ (upd H a o) { s with heap:=h',toks:=t' }:=I.un (Un.laid k hp (I.hok.fresh hp)) (I.hok.laid k hp new)
theorem Inv.write {x e:Addr} {o:HO} {t':Nat} (I:Inv X pins σ H s) (mu:Mut (H x)) (he:e=x\/H e=some (.own x)) (k:∀b u,b≠e->s.heap.get? b=some u->h'.get? b=some u) (heo:∃u,h'.get? e=some u)
  (new:cz X.prog X.w (upd H x o) h' x o):Inv X pins σ (upd H x o) { s with heap:=h',toks:=t' }:=I.un (Un.write mu he k heo) (I.hok.write mu he k heo new)
theorem Inv.weak {σ':List (Option V)} (I:Inv X pins σ H s) (hl:σ'.length=σ.length) (w:∀(i:Nat) v,σ'[i]?=some (some v)->σ[i]?=some (some v)):Inv X pins σ' H s:=
 ⟨I.ok,I.os,I.bare,I.base,let ⟨m,hn,hl'⟩:=I.loc; ⟨m,hn,fun i x v e1 e2 e3=>hl' i x v e1 (w i v e2) e3⟩,I.cell,I.free,I.j6,I.pin,I.hok,hl.trans I.len⟩
theorem Inv.My {YM:List (Addr×Obj)} (I:Inv X pins σ H s) (h:∀p∈YM,s.heap.get? p.1=some p.2/\H p.1=none/\p.1≠X.env.locals/\p.1∉X.fs/\∀v,p.2.data≠.cell v):Inv X YM σ H s:=
 ⟨I.ok,I.os,I.bare,I.base,I.loc,I.cell,I.free,I.j6,fun p hp=>(m_.mp hp).elim (fun z=>I.pin p (Hd _ z)) (h p),I.hok,I.len⟩
theorem xH {N:List Str} (hN:N.Nodup) {i j:Nat} {x:Str} (a:N[i]?=some x) (b:N[j]?=some x):i=j:=by
 obtain⟨h1,e1⟩:=fj.mp a
 obtain⟨h2,e2⟩:=fj.mp b
 exact(List.getElem_inj hN).mp (e1.trans e2.symm)
theorem O8 {M:Model} {A:Around} {E:Value->Shared->Prop} {i:Nat} {x:Str} {v:V} {u:Value} {Q:Unit->Shared->Prop} (I:Inv X pins σ H s) (hN:X.N.Nodup) (hi:X.N[i]?=some x) (hx:Loc X.env.scope x) (r:RelV v u)
  (h:∀s',Inv X pins (σ.set i (some v)) H s'->(∃a,Heap.SameBut a s.heap s'.heap/\(a=X.env.locals\/X.env.cells.lookup x=some a))->Q () s') (hf:X.fn x=true\/X.env.scope.names.lookup x=some .local:=by first | exact .inl rfl | exact .inr rfl | assumption):wpAny M A (storeName X.env x u) Q E s:=by
 obtain⟨m,hn,hl⟩:=id I.loc
 have hcls:(X.env.scope.kind==.class || (X.env.scope.kind==.module&&X.env.locals != X.env.globals))=false:=by rw[I.ok.kind]; rfl
 have hiσ:i<σ.length:=by rw[I.len]; exact(fj.mp hi).1
 have XS:=I.XS
 have tracked:∀{a:Addr} {h':Heap},(∃o,s.heap.get? a=some o/\H a=none)->Heap.SameBut a s.heap h'->lZ X.prog X.w H h':=fun {a h'} ha hs b ob e=>by
  obtain⟨_,_,hfree⟩:=ha
  refine(I.hok b ob e).stay (fun c w' hc q=>(hs.2 c ?_).trans q) (fun _ q=>q) fun _ _ q=>q
  rintro rfl
  rcases hc with rfl | hc
  ·rw[hfree] at e; cases e
  ·rw[hfree] at hc; cases hc
 rcases hx with hk | hk
 ·refine wpAny_storeName_local hk hn (fun h' hn' hs=>?_) hcls
  obtain⟨oL,_,_,hoL,_⟩:=id hn
  refine h _ ⟨I.ok,I.os,I.bare,⟨fun b o e n hb hx=>?_,fun b o e n hb hx=>?_,I.base.free,fun b o e hx=>?_,I.base.tups,I.base.yf,I.base.yR⟩,⟨_,hn',fun j y v' e1 e2 e3=>?_⟩,fun y c e=>?_,I.free,I.j6,fun p hp=>?_,tracked ⟨oL,hoL,I.free⟩ hs,by simpa using I.len⟩ ⟨_,hs,.inl rfl⟩
  ·exact(hs.2 b (gw (jU (cC e) I.ok.above))).trans (I.base.keep b o e n hb hx)
  ·obtain⟨sl,e1⟩:=I.base.slot b o e n hb hx
   exact⟨sl,(hs.2 b (gw (jU (cC e) I.ok.above))).trans e1⟩
  ·obtain⟨o',e1⟩:=I.base.there b o e hx
   exact⟨o',(hs.2 b (gw (jU (cC e) I.ok.above))).trans e1⟩
  ·by_cases hj:j=i
   ·subst hj
    rw[hi] at e1; cases e1
    rw[Mv hiσ] at e2
    cases e2
    exact⟨u,r,.inl ⟨hk,by simp⟩⟩
   ·rw[List.getElem?_set_ne (Ne.symm hj)] at e2
    obtain⟨u',r',q⟩:=hl j y v' e1 e2 e3
    refine⟨u',r',?_⟩
    rcases q with⟨k,e⟩ | ⟨k,c,e,z⟩
    ·refine .inl ⟨k,?_⟩
     have:y≠x:=fun e=>hj (xH hN e1 (e▸hi))
     simp[this,e]
    ·exact .inr ⟨k,c,e,z.sameBut hs (XS y c e)⟩
  ·obtain⟨w',z⟩:=I.cell y c e
   exact⟨w',z.sameBut hs (XS y c e)⟩
  ·obtain⟨e,n,ne,nf,d⟩:=I.pin p hp
   exact⟨(hs.2 p.1 ne).trans e,n,ne,nf,d⟩
 ·have hfn:X.fn x=true:=by
   rcases hf with z | z
   ·exact z
   ·rw[z] at hk; cases hk
  obtain⟨c,hc⟩:=I.ok.has x (.inl hk)
  obtain⟨w',z⟩:=I.cell x c hc
  refine wpAny_storeName_cell I.ok.kind hk hc z (fun h' hc' hs=>?_)
  obtain⟨oc,hoc,afe⟩:=id z
  refine h { s with heap:=h' } ⟨I.ok,I.os,I.bare,⟨fun b o e n hb hx=>?_,fun b o e n hb hx=>?_,I.base.free,fun b o e hx=>?_,I.base.tups,I.base.yf,I.base.yR⟩,⟨m,hn.sameBut hs (Ne.symm (XS x c hc)),fun j y v' e1 e2 e3=>?_⟩,fun y c' e=>?_,I.free,I.j6,fun p hp=>?_,tracked ⟨oc,hoc,I.j6 x c hc⟩ hs,by simpa using I.len⟩ ⟨c,hs,.inr hc⟩
  ·exact(hs.2 b (gw (jU (cC e) (I.ok.cab x c hfn hc)))).trans (I.base.keep b o e n hb hx)
  ·obtain⟨sl,e1⟩:=I.base.slot b o e n hb hx
   exact⟨sl,(hs.2 b (gw (jU (cC e) (I.ok.cab x c hfn hc)))).trans e1⟩
  ·obtain⟨o',e1⟩:=I.base.there b o e hx
   exact⟨o',(hs.2 b (gw (jU (cC e) (I.ok.cab x c hfn hc)))).trans e1⟩
  ·by_cases hj:j=i
   ·subst hj
    rw[hi] at e1; cases e1
    rw[Mv hiσ] at e2
    cases e2
    exact⟨u,r,.inr ⟨.inl hk,c,hc,hc'⟩⟩
   ·rw[List.getElem?_set_ne (Ne.symm hj)] at e2
    obtain⟨u',r',q⟩:=hl j y v' e1 e2 e3
    refine⟨u',r',?_⟩
    rcases q with q | ⟨k,c',e,z'⟩
    ·exact .inl q
    ·refine .inr ⟨k,c',e,z'.sameBut hs ?_⟩
     rintro rfl
     exact hj (xH hN e1 (I.ok.inj _ _ _ e hc▸hi))
  ·by_cases hcc:c'=c
   ·subst hcc; exact⟨_,hc'⟩
   ·obtain⟨w2,z2⟩:=I.cell y c' e
    exact⟨w2,z2.sameBut hs hcc⟩
  ·obtain⟨e,n,ne,nf,d⟩:=I.pin p hp
   refine⟨(hs.2 p.1 ?_).trans e,n,ne,nf,d⟩
   intro q
   rw[q,hoc] at e
   have q':oc=p.2:=Option.some.inj e
   exact d w' (by rw[<- q']; exact afe)
theorem jd {M:Model} {A:Around} {E:Value->Shared->Prop} {i:Nat} {x:Str} {v:V} {u:Value} {Q:Unit->Shared->Prop} (I:Inv X pins σ H s) (hN:X.N.Nodup) (hi:X.N[i]?=some x) (hx:Loc X.env.scope x) (r:RelV v u)
  (h:∀s',Inv X pins (σ.set i (some v)) H s'->Q () s') (hf:X.fn x=true\/X.env.scope.names.lookup x=some .local:=by first | exact .inl rfl | exact .inr rfl | assumption):wpAny M A (storeName X.env x u) Q E s:=
 O8 I hN hi hx r (fun s' I' _=>h s' I') hf
theorem Inv.call' {s':Shared} {ch:List Addr} (I:Inv X pins σ H s) (ho:s'.os=s.os) (u:Un (frs X.stack) ch H H' s.heap s'.heap) (hok:lZ X.prog X.w H' s'.heap) (hg:AllBare s'.gens)
  (hch:∀b∈ch,(b∈X.ex\/X.s₀.heap.objs.size<=b)/\b≠X.env.locals/\(∀x c,X.env.cells.lookup x=some c->c≠b)/\∀p∈X.pn++pins,p.1≠b):Inv X pins σ H' s':=by
 obtain⟨h',g',d',t',o'⟩:=s'
 have e:o'=s.os:=ho
 subst e
 exact I.call (g':=g') (t':=t') (d':=d') u hok hg hch
end
noncomputable abbrev XK:=Value->Option Addr->Hp->Prop
noncomputable abbrev St:=List (Option V)
noncomputable abbrev VK:=V->Hp->Prop
noncomputable abbrev TE:=St->Hp->VK->Prop
noncomputable abbrev TT:=St->Hp->(Bool->Hp->Prop)->Prop
noncomputable abbrev TA:=St->Hp->(List V->Hp->Prop)->Prop
structure Ends where
 nx:St->Hp->Prop
 rt:VK
 bk:St->Hp->Prop:=fun _ _=>False
 ct:St->Hp->Prop:=fun _ _=>False
noncomputable abbrev TS:=Ends->St->Hp->Prop
noncomputable def EP (X:Cx) (pins:List (Addr×Obj)) (σ:St) (Q:VK) (u:Value) (s':Shared):Prop:=∃v H',Inv X pins σ H' s'/\RelV v u/\Q v H'
noncomputable def TP (X:Cx) (pins:List (Addr×Obj)) (σ:St) (Q:Bool->Hp->Prop) (b:Bool) (s':Shared):Prop:=∃H',Inv X pins σ H' s'/\Q b H'
noncomputable def AP (X:Cx) (pins:List (Addr×Obj)) (σ:St) (Q:List V->Hp->Prop) (us:List Value) (s':Shared):Prop:=∃vs H',Inv X pins σ H' s'/\Vals vs us/\Q vs H'
noncomputable def SP (X:Cx) (pins:List (Addr×Obj)) (D:Ends) (f:Flow) (s':Shared):Prop:=
 match f with
 | .next=>∃σ' H',Inv X pins σ' H' s'/\D.nx σ' H'
 | .brk=>∃σ' H',Inv X pins σ' H' s'/\D.bk σ' H'
 | .cont=>∃σ' H',Inv X pins σ' H' s'/\D.ct σ' H'
 | .ret u=>∃v σ' H',Inv X pins σ' H' s'/\RelV v u/\D.rt v H'
structure PE (X:Cx) (e:Expr) (t:TE):Prop where
 mk ::
 go :
 ∀(pins:List (Addr×Obj)) (s:Shared) (σ:St) (H:Hp) (Q:VK),Inv X pins σ H s->t σ H Q->wpAny (model X.prog X.w) X.A (eval e X.env) (EP X pins σ Q) X.xe s
instance {X:Cx} {e:Expr} {t:TE}:CoeFun (PE X e t) (fun _=>
 ∀(pins:List (Addr×Obj)) (s:Shared) (σ:St) (H:Hp) (Q:VK),Inv X pins σ H s->t σ H Q->wpAny (model X.prog X.w) X.A (eval e X.env) (EP X pins σ Q) X.xe s):=⟨PE.go⟩
structure PT (X:Cx) (e:Expr) (t:TT):Prop where
 mk ::
 go :
 ∀(pins:List (Addr×Obj)) (s:Shared) (σ:St) (H:Hp) (Q:Bool->Hp->Prop),Inv X pins σ H s->t σ H Q->wpAny (model X.prog X.w) X.A (isTrue e X.env (eval e X.env)) (TP X pins σ Q) X.xe s
instance {X:Cx} {e:Expr} {t:TT}:CoeFun (PT X e t) (fun _=>
 ∀(pins:List (Addr×Obj)) (s:Shared) (σ:St) (H:Hp) (Q:Bool->Hp->Prop),Inv X pins σ H s->t σ H Q->wpAny (model X.prog X.w) X.A (isTrue e X.env (eval e X.env)) (TP X pins σ Q) X.xe s):=⟨PT.go⟩
structure PW (X:Cx) (e:Expr) (t:TT):Prop where
 mk ::
 go :
 ∀(whole:Sem Value) (pins:List (Addr×Obj)) (s:Shared) (σ:St) (H:Hp) (Q:Bool->Hp->Prop),Inv X pins σ H s->t σ H Q->wpAny (model X.prog X.w) X.A (isTrue e X.env whole) (TP X pins σ Q) X.xe s
instance {X:Cx} {e:Expr} {t:TT}:CoeFun (PW X e t) (fun _=>
 ∀(whole:Sem Value) (pins:List (Addr×Obj)) (s:Shared) (σ:St) (H:Hp) (Q:Bool->Hp->Prop),Inv X pins σ H s->t σ H Q->wpAny (model X.prog X.w) X.A (isTrue e X.env whole) (TP X pins σ Q) X.xe s):=⟨PW.go⟩
theorem PW.pt {X:Cx} {e:Expr} {t:TT} (h:PW X e t):PT X e t:=.mk <| h _
structure PA (X:Cx) (es:List Expr) (t:TA):Prop where
 mk ::
 go :
 ∀(pos:Pos) (pins:List (Addr×Obj)) (s:Shared) (σ:St) (H:Hp) (Q:List V->Hp->Prop),Inv X pins σ H s->t σ H Q->wpAny (model X.prog X.w) X.A (spliced (backTo pos (starEach es X.env))) (AP X pins σ Q) X.xe s
instance {X:Cx} {es:List Expr} {t:TA}:CoeFun (PA X es t) (fun _=>
 ∀(pos:Pos) (pins:List (Addr×Obj)) (s:Shared) (σ:St) (H:Hp) (Q:List V->Hp->Prop),Inv X pins σ H s->t σ H Q->wpAny (model X.prog X.w) X.A (spliced (backTo pos (starEach es X.env))) (AP X pins σ Q) X.xe s):=⟨PA.go⟩
structure PS (X:Cx) (st:Stmt) (t:TS):Prop where
 mk ::
 go :
 ∀(pins:List (Addr×Obj)) (s:Shared) (σ:St) (H:Hp) (D:Ends),Inv X pins σ H s->t D σ H->wpAny (model X.prog X.w) X.A (exec st X.env) (SP X pins D) X.xe s
instance {X:Cx} {st:Stmt} {t:TS}:CoeFun (PS X st t) (fun _=>
 ∀(pins:List (Addr×Obj)) (s:Shared) (σ:St) (H:Hp) (D:Ends),Inv X pins σ H s->t D σ H->wpAny (model X.prog X.w) X.A (exec st X.env) (SP X pins D) X.xe s):=⟨PS.go⟩
structure zV (X:Cx) (st:List Stmt) (t:TS):Prop where
 mk ::
 go :
 ∀(pins:List (Addr×Obj)) (s:Shared) (σ:St) (H:Hp) (D:Ends),Inv X pins σ H s->t D σ H->wpAny (model X.prog X.w) X.A (execs st X.env) (SP X pins D) X.xe s
instance {X:Cx} {st:List Stmt} {t:TS}:CoeFun (zV X st t) (fun _=>
 ∀(pins:List (Addr×Obj)) (s:Shared) (σ:St) (H:Hp) (D:Ends),Inv X pins σ H s->t D σ H->wpAny (model X.prog X.w) X.A (execs st X.env) (SP X pins D) X.xe s):=⟨zV.go⟩
theorem cT {α:Type} {t:Sem α} {Q Q':α->Shared->Prop} {M:Model} {A:Around} {E:Value->Shared->Prop} {s:Shared} (h:wpAny M A t Q E s) (hQ:∀a s,Q a s->Q' a s):wpAny M A t Q' E s:=g_ h hQ fun _ _ x=>x
section
variable {X:Cx}
noncomputable def uM (i:Nat):TE:=fun σ H Q=>match σ[i]? with
 | some (some v)=>Q v H
 | _=>False
theorem uM.ex {i:Nat} {σ:St} {H:Hp} {Q:VK} (h:uM i σ H Q):∃v,σ[i]?=some (some v)/\Q v H:=by
 unfold uM at h
 split at h
 ·rename_i v e
  exact⟨v,e,h⟩
 ·exact h.elim
noncomputable def tC (v:V):TE:=fun _ H Q=>Q v H
theorem aak {i:Nat} {x:Str} {pos:Pos} (hN:X.N[i]?=some x) (hv:Vis X.env.scope x) (hd:(x==("__debug__" : Str))=false:=by decide) (hcd:(x==("__classdict__" : Str))=false:=by decide):PE X (.Name x pos) (uM i):=by
 refine .mk ?_
 intro pins s σ H Q I h
 obtain⟨v,e,h⟩:=uM.ex h
 obtain⟨m,hn,hl⟩:=I.loc
 obtain⟨u,r,l⟩:=hl i x v hN e hv
 have fin:EP X pins σ Q u s:=⟨v,H,I,r,h⟩
 rcases l with⟨hk,hm⟩ | ⟨hk,c,hc,hcell⟩
 ·exact wpAny_Name (wpAny_loadName_local I.ok.kind hk hn hm fin) hd
 ·rcases hk with hk | hk
  ·exact wpAny_Name (wpAny_loadName_cell I.ok.kind hk hc hcell fin) hd
  ·exact wpAny_Name (wpAny_loadName_free I.ok.kind hk hc hcell fin hcd) hd
theorem ao {i j pos}:PE X (.Constant (.int i) j pos) (tC (.int i)):=.mk <| fun _ _ _ H _ I h=>wpAny_Constant_int ⟨.int i,H,I.tok _,⟨_,rfl⟩,h⟩
theorem rD {b j pos}:PE X (.Constant (.bool b) j pos) (tC (.bl b)):=.mk <| fun _ _ _ H _ I h=>Constant_bool ⟨.bl b,H,I,rfl,h⟩
theorem cW {j pos}:PE X (.Constant .none j pos) (tC .non):=.mk <| fun _ _ _ H _ I h=>Constant_none ⟨.non,H,I,rfl,h⟩
theorem cA {x j pos}:PE X (.Constant (.str x) j pos) (tC (.str x)):=.mk <| fun _ _ _ H _ I h=>Calls.Constant_str ⟨.str x,H,I.tok _,⟨_,rfl⟩,h⟩
noncomputable def Gl (X:Cx) (x:Str):Prop:=X.env.kindOf x=some .globalImplicit
theorem rK {E:Value->Shared->Prop} {pins:List (Addr×Obj)} {s:Shared} {σ:St} {H:Hp} {x:Str} {u:Value} {pos:Pos} {Q:Value->Shared->Prop} (I:Inv X pins σ H s) (hg:Gl X x) (hm:X.mg x=some u) (h:Q u s)
  (hd:(x==("__debug__" : Str))=false:=by decide):wpAny (model X.prog X.w) X.A (eval (.Name x pos) X.env) Q E s:=
 Calls.Name_function_global I.ok.kind hg (Calls.loadGlobal_global (by rw[I.ok.glob]; exact I.mod.glob.keeps I.bk) hm h) hd
theorem iV {E:Value->Shared->Prop} {pins:List (Addr×Obj)} {s:Shared} {σ:St} {H:Hp} {x:Str} {u:Value} {pos:Pos} {Q:Value->Shared->Prop} (I:Inv X pins σ H s) (hg:Gl X x) (hm:X.mg x=none) (hv:bootBuiltins x=some u) (h:Q u s)
  (hn:x ≠ "__name__" := by decide) (hd:(x==("__debug__" : Str))=false:=by decide):wpAny (model X.prog X.w) X.A (eval (.Name x pos) X.env) Q E s:=by
 obtain⟨mb,h1,h2⟩:=I.mod.blt
 exact Calls.Name_function_global I.ok.kind hg (Calls.loadGlobal_builtin (by rw[I.ok.glob]; exact I.mod.glob.keeps I.bk) hm (by rw[I.ok.blt]; exact h1.keeps I.bk) ((h2 x hn).trans hv) h) hd
theorem gD {x:Str} {v:V} {u:Value} {pos:Pos} (hg:Gl X x) (hm:X.mg x=some u) (r:RelV v u) (hd:(x==("__debug__" : Str))=false:=by decide):PE X (.Name x pos) (tC v):=
 .mk <| fun _ _ _ H _ I h=>rK I hg hm ⟨v,H,I,r,h⟩ hd
theorem W2 {x:Str} {v:V} {u:Value} {pos:Pos} (hg:Gl X x) (hm:X.mg x=none) (hv:bootBuiltins x=some u) (r:RelV v u) (hn:x ≠ "__name__" := by decide) (hd:(x==("__debug__" : Str))=false:=by decide):PE X (.Name x pos) (tC v):=
 .mk <| fun _ _ _ H _ I h=>iV I hg hm hv ⟨v,H,I,r,h⟩ hn hd
variable {a b:Expr} {ta tb:TE} {pos:Pos}
noncomputable def tB (t:TE):TT:=fun σ H Q=>t σ H fun x H1=>∃c,x=.bl c/\Q c H1
theorem mC {e:Expr} {t:TE} (h:PE X e t) (he:∀whole,isTrue e X.env whole=(do let v <- whole; standAt e.pos; holding [v] (truthy v)):=by intro _; rfl):PT X e (tB t):=by
 refine .mk ?_
 intro pins s σ H Q I hw
 refine isTrue_plain (cT (h pins s σ H _ I hw) fun v s1 qx=>?_) (he _)
 obtain ⟨x,H1,I1,r1,q1⟩:=qx
 obtain⟨d,rfl,q⟩:=q1
 cases r1
 exact Jz ⟨H1,I1,q⟩
variable {tA tB':TT} {rest:List Expr}
noncomputable def acq (t u:TT):TT:=fun σ H Q=>t σ H fun c H1=>if c=true then u σ H1 Q else Q false H1
noncomputable def tOr (t u:TT):TT:=fun σ H Q=>t σ H fun c H1=>if c=true then Q true H1 else u σ H1 Q
noncomputable def acn (t:TT):TT:=fun σ H Q=>t σ H fun c H1=>Q (!c) H1
theorem rC (ha:PT X a tA):PW X (.BoolOp .And [a] pos) tA:=by
 refine .mk ?_
 intro wh pins s σ H Q I h
 refine isTrue_and (cT (ha pins s σ H Q I h) fun c s1 e=>?_)
 cases c with
 | true=>exact isTrue_and_nil e
 | false=>exact e
theorem wW (ha:PT X a tA):PW X (.BoolOp .Or [a] pos) tA:=by
 refine .mk ?_
 intro wh pins s σ H Q I h
 refine isTrue_or (cT (ha pins s σ H Q I h) fun c s1 e=>?_)
 cases c with
 | false=>exact isTrue_or_nil e
 | true=>exact e
theorem wX (ha:PT X a tA) (hb:PW X (.BoolOp .And (b::rest) pos) tB'):PW X (.BoolOp .And (a::b::rest) pos) (acq tA tB'):=by
 refine .mk ?_
 intro wh pins s σ H Q I h
 refine isTrue_and (cT (ha pins s σ H _ I h) fun c s1 qx=>?_)
 obtain⟨H1,I1,q1⟩:=qx
 cases c with
 | true=>exact hb wh pins s1 σ H1 Q I1 q1
 | false=>exact⟨H1,I1,q1⟩
theorem Hf (ha:PT X a tA) (hb:PW X (.BoolOp .Or (b::rest) pos) tB'):PW X (.BoolOp .Or (a::b::rest) pos) (tOr tA tB'):=by
 refine .mk ?_
 intro wh pins s σ H Q I h
 refine isTrue_or (cT (ha pins s σ H _ I h) fun c s1 qx=>?_)
 obtain⟨H1,I1,q1⟩:=qx
 cases c with
 | true=>exact⟨H1,I1,q1⟩
 | false=>exact hb wh pins s1 σ H1 Q I1 q1
theorem JC (ha:PT X a tA):PT X (.UnaryOp .Not a pos) (acn tA):=by
 refine .mk ?_
 intro pins s σ H Q I h
 exact isTrue_not (ha pins s σ H (fun c H1=>Q (!c) H1) I h)
noncomputable def Yy (ta tb:TE):TE:=fun σ H Q=>ta σ H fun x H1=>∃c,x=.bl c/\if c=true then tb σ H1 Q else Q (.bl false) H1
noncomputable def acj (ta tb:TE):TE:=fun σ H Q=>ta σ H fun x H1=>∃c,x=.bl c/\if c=true then Q (.bl true) H1 else tb σ H1 Q
noncomputable def ack (ta:TE):TE:=fun σ H Q=>ta σ H fun x H1=>∃c,x=.bl c/\Q (.bl (!c)) H1
theorem Dl {op} {t:TE} (h:PE X a t):PE X (.BoolOp op [a] pos) t:=.mk <| fun pins s σ H Q I hw=>BoolOp_one (h pins s σ H Q I hw)
theorem Dm (ha:PE X a ta) (hb:PE X (.BoolOp .And (b::rest) pos) tb):PE X (.BoolOp .And (a::b::rest) pos) (Yy ta tb):=by
 refine .mk ?_
 intro pins s σ H Q I h
 refine BoolOp_and (cT (ha pins s σ H _ I h) fun v s1 qx=>?_)
 obtain⟨x,H1,I1,r1,q1⟩:=qx
 obtain⟨c,rfl,q1⟩:=q1
 cases r1
 refine Jz ?_
 cases c with
 | true=>exact hb pins s1 σ H1 Q I1 q1
 | false=>exact⟨.bl false,H1,I1,rfl,q1⟩
theorem acT (ha:PE X a ta) (hb:PE X (.BoolOp .Or (b::rest) pos) tb):PE X (.BoolOp .Or (a::b::rest) pos) (acj ta tb):=by
 refine .mk ?_
 intro pins s σ H Q I h
 refine BoolOp_or (cT (ha pins s σ H _ I h) fun v s1 qx=>?_)
 obtain⟨x,H1,I1,r1,q1⟩:=qx
 obtain⟨c,rfl,q1⟩:=q1
 cases r1
 refine Jz ?_
 cases c with
 | false=>exact hb pins s1 σ H1 Q I1 q1
 | true=>exact⟨.bl true,H1,I1,rfl,q1⟩
noncomputable def tIf (t:TT) (ta tb:TE):TE:=fun σ H Q=>t σ H fun c H1=>if c=true then ta σ H1 Q else tb σ H1 Q
theorem eE {c:Expr} (hc:PT X c tA) (ha:PE X a ta) (hb:PE X b tb):PE X (.IfExp c a b pos) (tIf tA ta tb):=by
 refine .mk ?_
 intro pins s σ H Q I h
 refine wpAny_IfExp (cT (hc pins s σ H _ I h) fun d s1 qx=>?_)
 obtain⟨H1,I1,q1⟩:=qx
 cases d with
 | true=>exact ha pins s1 σ H1 Q I1 q1
 | false=>exact hb pins s1 σ H1 Q I1 q1
end
noncomputable def dh (K:PySem.W.Frag) (H:Hp) (a:Addr) (xs:List V):Prop:=
 Rd H a (.lst xs) \/
  ∃(o:Obj) (its:Array Value) (n:Nat),K.lookup a=some o/\o.cls=.type "list" /\ o.dict=none/\o.data=.seq its n/\its.size<=sizeLine/\Vals xs its.toList
noncomputable def cB (K:PySem.W.Frag) (H:Hp) (a:Addr) (xs:List V):Prop:=
 Rd H a (.tup xs) \/
  ∃(o:Obj) (its:Array Value) (n:Nat),K.lookup a=some o/\o.cls=.type "tuple" /\ o.data=.seq its n/\its.size<=sizeLine/\Vals xs its.toList
noncomputable def aga:Value->Option V
 | .none=>some .non
 | .bool b=>some (.bl b)
 | .int i _=>some (.int i)
 | .str x _=>some (.str x)
 | .bytes b _=>some (.Rp b)
 | .float b _=>some (.flt b)
 | .ref a=>some (.ref a)
 | .type n=>some (.ty n)
 | _=>none
theorem RelV.abs {x:V} {u:Value} (r:RelV x u):aga u=some x:=by
 cases x with
 | non=>cases r; rfl
 | bl _=>cases r; rfl
 | int _=>obtain⟨t,rfl⟩:=r; rfl
 | str _=>obtain⟨t,rfl⟩:=r; rfl
 | Rp _=>obtain⟨t,rfl⟩:=r; rfl
 | flt _=>obtain⟨t,rfl⟩:=r; rfl
 | ref _=>cases r; rfl
 | ty _=>cases r; rfl
theorem RelV.inj {x y:V} {u:Value} (r:RelV x u) (q:RelV y u):x=y:=Option.some.inj (r.abs.symm.trans q.abs)
theorem Vals.inj:∀{xs ys:List V} {us:List Value},Vals xs us->Vals ys us->xs=ys
 | _,_,_,.nil,.nil=>rfl
 | _,_,_,.cons r t,.cons r' t'=>by rw[r.inj r',Vals.inj t t']
section
variable {X:Cx} {pins:List (Addr×Obj)} {σ:St} {H:Hp} {s:Shared} {a:Addr} {xs ys:List V}
theorem dh.of {K:PySem.W.Frag} (h:H a=some (.lst xs)):dh K H a xs:=.inl (.inl h)
theorem cB.of {K:PySem.W.Frag} (h:H a=some (.tup xs)):cB K H a xs:=.inl (.inl h)
theorem Inv.list (I:Inv X pins σ H s) (h:dh X.K H a xs):∃its:List Value,Vals xs its/\PlainL s.heap a its.toArray/\xs.length<=sizeLine:=by
 rcases h with h | ⟨o,its,n,hk,hc,hd,hs,hz,r⟩
 ·obtain⟨z,its,n,r,e⟩:=h.ok I.hok
  exact⟨its,r,⟨_,n,e,rfl,rfl,rfl⟩,z⟩
 ·refine⟨its.toList,r,⟨o,n,I.oE a o hk,hc,hd,by simpa using hs⟩,?_⟩
  have e:=r.length
  simp only[nj] at e
  omega
theorem Inv.tuple (I:Inv X pins σ H s) (h:cB X.K H a xs):∃its:List Value,Vals xs its/\IsTup s.heap a its.toArray/\xs.length<=sizeLine:=by
 rcases h with h | ⟨o,its,n,hk,hc,hs,hz,r⟩
 ·obtain⟨z,its,r,p⟩:=h.ok I.hok
  exact⟨its,r,p,z⟩
 ·refine⟨its.toList,r,⟨o,I.oE a o hk,hc,n,by simpa using hs⟩,?_⟩
  have e:=r.length
  simp only[nj] at e
  omega
theorem Inv.xP (I:Inv X pins σ H s) (h:dh X.K H a xs) (h':dh X.K H a ys):xs=ys:=by
 obtain⟨its,r,⟨o,n,e,_,_,d⟩,_⟩:=I.list h
 obtain⟨its',r',⟨o',n',e',_,_,d'⟩,_⟩:=I.list h'
 rw[e] at e'; cases e'
 rw[d] at d'
 injection d' with d1 _
 have:its=its':=by simpa using nZ Array.toList d1
 subst this
 exact r.inj r'
theorem Inv.sU (I:Inv X pins σ H s) (h:cB X.K H a xs) (h':cB X.K H a ys):xs=ys:=by
 obtain⟨its,r,⟨o,e,_,n,d⟩,_⟩:=I.tuple h
 obtain⟨its',r',⟨o',e',_,n',d'⟩,_⟩:=I.tuple h'
 rw[e] at e'; cases e'
 rw[d] at d'
 injection d' with d1 _
 have:its=its':=by simpa using nZ Array.toList d1
 subst this
 exact r.inj r'
end
noncomputable abbrev Cx.wish (X:Cx) (E:Value->Shared->Prop):Cx:={ X with xe:=E }
noncomputable abbrev Cx.nox (X:Cx):Cx:=X.wish fun _ _=>False
theorem Cx.Ok.wish {X:Cx} (ok:X.Ok) (E:Value->Shared->Prop):(X.wish E).Ok:=
 ⟨ok.mod,ok.kind,ok.glob,ok.blt,ok.above,ok.inj,ok.has,ok.cab,ok.hd,ok.frames,ok.stk,ok.exf,ok.bs,ok.Rq,ok.Hr,ok.Kr,ok.uU,ok.frf⟩
theorem Cx.Ok.nC {X:Cx} {E:Value->Shared->Prop} (ok:(X.wish E).Ok):X.Ok:=
 ⟨ok.mod,ok.kind,ok.glob,ok.blt,ok.above,ok.inj,ok.has,ok.cab,ok.hd,ok.frames,ok.stk,ok.exf,ok.bs,ok.Rq,ok.Hr,ok.Kr,ok.uU,ok.frf⟩
section
variable {X:Cx} {pins:List (Addr×Obj)} {σ:St} {H:Hp} {s:Shared} {E:Value->Shared->Prop}
theorem Inv.wish (I:Inv X pins σ H s) (E:Value->Shared->Prop):Inv (X.wish E) pins σ H s:=⟨I.ok.wish E,I.os,I.bare,I.base,I.loc,I.cell,I.free,I.j6,I.pin,I.hok,I.len⟩
theorem Inv.nC (I:Inv (X.wish E) pins σ H s):Inv X pins σ H s:=⟨I.ok.nC,I.os,I.bare,I.base,I.loc,I.cell,I.free,I.j6,I.pin,I.hok,I.len⟩
theorem SP.nC {D:Ends} {f:Flow} {s':Shared} (h:SP (X.wish E) pins D f s'):SP X pins D f s':=by
 cases f with
 | next=>obtain⟨σ',H',I,q⟩:=h; exact⟨σ',H',I.nC,q⟩
 | brk=>obtain⟨σ',H',I,q⟩:=h; exact⟨σ',H',I.nC,q⟩
 | cont=>obtain⟨σ',H',I,q⟩:=h; exact⟨σ',H',I.nC,q⟩
 | ret u=>obtain⟨v,σ',H',I,r,q⟩:=h; exact⟨v,σ',H',I.nC,r,q⟩
theorem zV.nox {st:List Stmt} {t:TS} (h:zV X.nox st t):zV X st t:=.mk <| fun pins s σ H D I hw=>
 g_ (h pins s σ H D (I.wish _) hw) (fun _ _ q=>q.nC) fun _ _ z=>False.elim z
end
section
variable {X:Cx} {st:Stmt} {rest:List Stmt} {t u:TS} {e:Expr} {te:TE} {pos:Pos}
noncomputable def Yt:TS:=fun D σ H=>D.nx σ H
noncomputable def RX (t u:TS):TS:=fun D σ H=>t { D with nx:=u D } σ H
theorem bR:zV X [] Yt:=.mk <| fun _ _ σ H _ I h=>Ba ⟨σ,H,I,h⟩
theorem aq (h1:PS X st t) (h2:zV X rest u):zV X (st::rest) (RX t u):=by
 refine .mk ?_
 intro pins s σ H D I h
 refine wpAny_execs_cons (cT (h1 pins s σ H { D with nx:=u D } I h) fun f s1 q=>?_)
 cases f with
 | next=>
  obtain⟨σ',H',I',q⟩:=q
  exact h2 pins s1 σ' H' D I' q
 | ret v=>exact q
 | brk=>exact q
 | cont=>exact q
theorem aH (h1:PS X st t):zV X [st] t:=by
 refine .mk ?_
 intro pins s σ H D I h
 refine wpAny_execs_cons (cT (h1 pins s σ H D I h) fun f s1 q=>?_)
 cases f with
 | next=>exact Ba q
 | ret v=>exact q
 | brk=>exact q
 | cont=>exact q
theorem Inv.quiet {pins:List (Addr×Obj)} {σ:St} {H:Hp} {s:Shared} (I:Inv X pins σ H s):interactive X.env=false:=by simp[interactive,I.ok.kind]
noncomputable def Yw (te:TE):TS:=fun D σ H=>te σ H fun _ H1=>D.nx σ H1
theorem iw (he:PE X e te) (hs:swapsWith e none pos.line X.env=pure false:=by rfl):PS X (.Expr e pos) (Yw te):=by
 refine .mk ?_
 intro pins s σ H D I h
 exact wpAny_Expr_any (cT (he pins s σ H _ I h) fun v s1 ⟨x,H1,I1,r1,q1⟩=>⟨σ,H1,I1,q1⟩) I.quiet hs
noncomputable def acg (te:TE):TS:=fun D σ H=>te σ H D.rt
theorem a_ (he:PE X e te):PS X (.Return (some e) pos) (acg te):=by
 refine .mk ?_
 intro pins s σ H D I h
 exact wpAny_Return_some (cT (he pins s σ H _ I h) fun v s1 ⟨x,H1,I1,r1,q1⟩=>⟨x,σ,H1,I1,r1,q1⟩)
noncomputable def acf:TS:=fun D _ H=>D.rt .non H
noncomputable def We (c:TT) (t u:TS):TS:=fun D σ H=>c σ H fun b H1=>if b=true then t D σ H1 else u D σ H1
theorem dC {c:Expr} {a b:List Stmt} {tc:TT} (hc:PT X c tc) (ha:zV X a t) (hb:zV X b u):PS X (.If c a b pos) (We tc t u):=by
 refine .mk ?_
 intro pins s σ H D I h
 refine wpAny_If (cT (hc pins s σ H _ I h) fun d s1 qx=>?_)
 obtain⟨H1,I1,q1⟩:=qx
 cases d with
 | true=>exact ha pins s1 σ H1 D I1 q1
 | false=>exact hb pins s1 σ H1 D I1 q1
end
noncomputable abbrev TG:=V->St->Hp->(St->Hp->Prop)->Prop
noncomputable abbrev Vu:=List V->St->Hp->(St->Hp->Prop)->Prop
structure PG (X:Cx) (target:Expr) (t:TG):Prop where
 mk ::
 go :
 ∀(pins:List (Addr×Obj)) (s:Shared) (σ:St) (H:Hp) (v:V) (u:Value) (Q:St->Hp->Prop),Inv X pins σ H s->RelV v u->t v σ H Q ->
  wpAny (model X.prog X.w) X.A (assign target X.env u) (fun _ s'=>∃σ' H',Inv X pins σ' H' s'/\Q σ' H') X.xe s
instance {X:Cx} {target:Expr} {t:TG}:CoeFun (PG X target t) (fun _=>
 ∀(pins:List (Addr×Obj)) (s:Shared) (σ:St) (H:Hp) (v:V) (u:Value) (Q:St->Hp->Prop),Inv X pins σ H s->RelV v u->t v σ H Q ->
  wpAny (model X.prog X.w) X.A (assign target X.env u) (fun _ s'=>∃σ' H',Inv X pins σ' H' s'/\Q σ' H') X.xe s):=⟨PG.go⟩
structure PGs (X:Cx) (ts:List Expr) (t:Vu):Prop where
 mk ::
 go :
 ∀(pins:List (Addr×Obj)) (s:Shared) (σ:St) (H:Hp) (vs:List V) (us:List Value) (Q:St->Hp->Prop),Inv X pins σ H s->Vals vs us->t vs σ H Q ->
  wpAny (model X.prog X.w) X.A (assignInOrder ((assignEach ts X.env).map (·.2)) us) (fun _ s'=>∃σ' H',Inv X pins σ' H' s'/\Q σ' H') X.xe s
instance {X:Cx} {ts:List Expr} {t:Vu}:CoeFun (PGs X ts t) (fun _=>
 ∀(pins:List (Addr×Obj)) (s:Shared) (σ:St) (H:Hp) (vs:List V) (us:List Value) (Q:St->Hp->Prop),Inv X pins σ H s->Vals vs us->t vs σ H Q ->
  wpAny (model X.prog X.w) X.A (assignInOrder ((assignEach ts X.env).map (·.2)) us) (fun _ s'=>∃σ' H',Inv X pins σ' H' s'/\Q σ' H') X.xe s):=⟨PGs.go⟩
noncomputable abbrev Q9:=V->V->V->Hp->(Hp->Prop)->Prop
structure Rc (X:Cx) (t:Q9):Prop where
 mk ::
 go :
 ∀(pins:List (Addr×Obj)) (s:Shared) (σ:St) (H:Hp) (o i v:V) (ov iv u:Value) (Q:Hp->Prop),Inv X pins σ H s->RelV o ov->RelV i iv->RelV v u->t o i v H Q ->
  wpAny (model X.prog X.w) X.A (setItem ov iv u) (fun _ s'=>∃H',Inv X pins σ H' s'/\Q H') X.xe s
instance {X:Cx} {t:Q9}:CoeFun (Rc X t) (fun _=>
 ∀(pins:List (Addr×Obj)) (s:Shared) (σ:St) (H:Hp) (o i v:V) (ov iv u:Value) (Q:Hp->Prop),Inv X pins σ H s->RelV o ov->RelV i iv->RelV v u->t o i v H Q ->
  wpAny (model X.prog X.w) X.A (setItem ov iv u) (fun _ s'=>∃H',Inv X pins σ H' s'/\Q H') X.xe s):=⟨Rc.go⟩
noncomputable abbrev TIp:=V->V->Hp->VK->Prop
noncomputable def PIp (X:Cx) (op:Operator) (t:TIp):Prop:=
 ∀(pins:List (Addr×Obj)) (s:Shared) (σ:St) (H:Hp) (x y:V) (v u:Value) (Q:VK),Inv X pins σ H s->RelV x v->RelV y u->t x y H Q ->
  wpAny (model X.prog X.w) X.A (inplaceOp op v u) (EP X pins σ Q) X.xe s
section
variable {X:Cx} {pos:Pos}
noncomputable def eU (i:Nat):TG:=fun v σ H Q=>Q (σ.set i (some v)) H
theorem aF {i:Nat} {x:Str} (hN:X.N.Nodup) (hi:X.N[i]?=some x) (hx:Loc X.env.scope x) (hf:X.fn x=true\/X.env.scope.names.lookup x=some .local:=by first | exact .inl rfl | exact .inr rfl | assumption):PG X (.Name x pos) (eU i):=by
 refine .mk ?_
 intro pins s σ H v u Q I r h
 exact wpAny_assign_Name (jd I hN hi hx r (fun s' I'=>⟨_,H,I',h⟩) hf)
noncomputable def zu:Vu:=fun vs σ H Q=>match vs with
 | []=>Q σ H
 | _=>False
theorem zu.ex {vs:List V} {σ:St} {H:Hp} {Q:St->Hp->Prop} (h:zu vs σ H Q):vs=[]/\Q σ H:=by
 cases vs with
 | nil=>exact⟨rfl,h⟩
 | cons a b=>exact h.elim
noncomputable def jO (t:TG) (u:Vu):Vu:=fun vs σ H Q=>match vs with
 | v::r=>t v σ H fun σ' H'=>u r σ' H' Q
 | []=>False
theorem jO.ex {t:TG} {u:Vu} {vs:List V} {σ:St} {H:Hp} {Q:St->Hp->Prop} (h:jO t u vs σ H Q):∃v r,vs=v::r/\t v σ H fun σ' H'=>u r σ' H' Q:=by
 cases vs with
 | nil=>exact h.elim
 | cons a b=>exact⟨a,b,rfl,h⟩
theorem bG:PGs X [] zu:=by
 refine .mk ?_
 intro pins s σ H vs us Q I r h
 obtain⟨e,h⟩:=zu.ex h
 subst e
 cases r
 exact assignInOrder_nil ⟨σ,H,I,h⟩
theorem aD {e:Expr} {es:List Expr} {t:TG} {u:Vu} (h1:PG X e t) (h2:PGs X es u)
  (hs:(assignEach (e::es) X.env).map (·.2)=assign e X.env::(assignEach es X.env).map (·.2):=by rfl):PGs X (e::es) (jO t u):=by
 refine .mk ?_
 intro pins s σ H vs us Q I r h
 obtain⟨v,vr,e1,h⟩:=jO.ex h
 subst e1
 cases r with
 | cons r rr=>
  rw[hs]
  refine assignInOrder_cons (cT (h1 pins s σ H _ _ _ I r h) fun _ s1 qx=>?_)
  obtain⟨σ1,H1,I1,q1⟩:=qx
  exact h2 pins s1 σ1 H1 _ _ Q I1 rr q1
noncomputable def J7 (K:PySem.W.Frag) (n:Nat) (t:Vu):TG:=fun v σ H Q=>∃a xs,v=.ref a/\cB K H a xs/\xs.length=n/\t xs σ H Q
theorem aaj {es:List Expr} {k:Nat} {t:Vu} {n:Nat} (hc:X.calm=true) (h:PGs X es t)
  (hn:(assignEach es X.env).length=n:=by rfl) (hst:(assignEach es X.env).findIdx? (·.1)=none:=by rfl):PG X (.Tuple es k pos) (J7 X.K n t):=by
 refine .mk ?_
 intro pins s σ H v u Q I r hw
 obtain⟨a,xs,e1,hq,hl,hw⟩:=hw
 subst e1
 cases r
 obtain⟨its,rv,ht,hz⟩:=I.tuple hq
 refine assign_Tuple_tuple (I.ok.hd hc) ht (by simp[hn,<- hl,rv.length]) hst fun h' hx=>?_
 have I1:Inv X pins σ H { s with heap:=h' }:=I.kept (t':=s.toks) fun b o e=>hx b o (gw (cC e)) e
 exact h pins _ σ H xs _ Q I1 (by simpa using rv) hw
noncomputable def adl (to ti:TE) (t:Q9):TG:=fun v σ H Q=>to σ H fun o H1=>ti σ H1 fun i H2=>t o i v H2 fun H3=>Q σ H3
theorem qj {o i:Expr} {to ti:TE} {t:Q9} (ho:PE X o to) (hi:PE X i ti) (hs:Rc X t)
  (ha:∀v,assign (.Subscript o i pos) X.env v=(do
   let ov <- holding [v] (eval o X.env)
   let iv <- holding [v,ov] (eval i X.env)
   standAt pos
   holding [v,ov,iv] (setItem ov iv v)
   release [v,ov,iv] []):=by intro _; rfl):PG X (.Subscript o i pos) (adl to ti t):=by
 refine .mk ?_
 intro pins s σ H v u Q I r h
 rw[ha]
 refine aW (pK (cT (ho pins s σ H _ I h) fun ov s1 qx=>?_))
 obtain⟨x,H1,I1,r1,q1⟩:=qx
 refine aW (pK (cT (hi pins s1 σ H1 _ I1 q1) fun iv s2 qx=>?_))
 obtain⟨y,H2,I2,r2,q2⟩:=qx
 refine aW (Dh (aW (pK (cT (hs pins s2 σ H2 x y v ov iv u _ I2 r1 r2 r q2) fun _ s3 qx=>?_))))
 obtain⟨H3,I3,q3⟩:=qx
 exact wpAny_release ⟨σ,H3,I3,q3⟩
noncomputable def FQ (te:TE) (g:TG):TS:=fun D σ H=>te σ H fun x H1=>g x σ H1 D.nx
theorem cL {tg e:Expr} {te:TE} {g:TG} (he:PE X e te) (hg:PG X tg g) (hs:swapsWithSole [tg] e pos.line X.env=pure false:=by rfl) (hw:swappedStores [tg] e X.env=pure none:=by rfl)
  (h1:(assignEach [tg] X.env).map (·.2)=[assign tg X.env]:=by rfl):PS X (.Assign [tg] e pos) (FQ te g):=by
 refine .mk ?_
 intro pins s σ H D I h
 refine wpAny_Assign_stores (cT (he pins s σ H _ I h) fun v s1 qx=>?_) hs hw
 obtain ⟨x,H1,I1,r1,q1⟩:=qx
 rw[h1]
 exact cT (hg pins s1 σ H1 x v _ I1 r1 q1) fun _ s2 q=>q
theorem aZ {i:Nat} {x:Str} {e:Expr} {te:TE} {pos':Pos} (hN:X.N.Nodup) (hi:X.N[i]?=some x) (hx:Loc X.env.scope x) (he:PE X e te) (hs:swapsWith e (some (.Name x pos')) pos.line X.env=pure false:=by rfl) (hf:X.fn x=true\/X.env.scope.names.lookup x=some .local:=by first | exact .inl rfl | exact .inr rfl | assumption) :
  PS X (.Assign [.Name x pos'] e pos) (FQ te (eU i)):=by
 refine .mk ?_
 intro pins s σ H D I h
 refine wpAny_Assign_Name (cT (he pins s σ H _ I h) fun v s1 qx=>?_) hs
 obtain ⟨y,H1,I1,r1,q1⟩:=qx
 exact jd I1 hN hi hx r1 (fun s2 I2=>⟨_,H1,I2,q1⟩) hf
noncomputable def aci (i j:Nat) (ta:TA):TS:=fun D σ H=>ta σ H fun vs H1=>∃v w,vs=[v,w]/\D.nx ((σ.set i (some v)).set j (some w)) H1
theorem mD {i j:Nat} {x y:Str} {a b:Expr} {ta:TA} {px py pt:Pos} {kt k2 pt2} (hc:X.calm=true) (hN:X.N.Nodup) (hi:X.N[i]?=some x) (hj:X.N[j]?=some y) (hij:i≠j)
  (hx:X.env.scope.names.lookup x=some .local) (hy:X.env.scope.names.lookup y=some .local) (ha:PA X [a,b] ta)
  (hw:swappedStores [.Tuple [.Name x px,.Name y py] kt pt] (.Tuple [a,b] k2 pt2) X.env=pure (some [x,y]))
  (hs:swapsWithSole [.Tuple [.Name x px,.Name y py] kt pt] (.Tuple [a,b] k2 pt2) pos.line X.env=pure false:=by rfl) :
  PS X (.Assign [.Tuple [.Name x px,.Name y py] kt pt] (.Tuple [a,b] k2 pt2) pos) (aci i j ta):=by
 refine .mk ?_
 intro pins s σ H D I h
 rw[exec_Assign_arm]
 refine aW (Dh ?_)
 rw[hs]
 refine aW (bV ?_)
 rw[bB (by decide)]
 refine aW (Tuple_ (cT (ha _ pins s σ H _ I h) fun us s1 qx=>?_))
 obtain⟨vs,H1,I1,r1,q1⟩:=qx
 obtain⟨v,w,e1,q1⟩:=q1
 subst e1
 obtain⟨u1,u2,rfl,rv,Z5⟩:∃u1 u2,us=[u1,u2]/\RelV v u1/\RelV w u2:=by
  cases r1 with
  | cons p q=>
   cases q with
   | cons p' q'=>
    cases q'
    exact⟨_,_,rfl,p,p'⟩
 refine uN ?_ (by show 2<=sizeLine; decide)
 have I2:Inv X pins σ H1 { s1 with heap:=s1.heap.push { cls:=.type "tuple",data:=.seq [u1,u2].toArray } }:=I1.kept (t':=s1.toks) fun b o e=>dY _ e
 rw[hw]
 refine aW (bV ?_)
 show wpAny (model X.prog X.w) X.A (do rule "assign.swapped-stores"; let items <- unpackItems (.ref s1.heap.objs.size) 2 none; assignInOrder [fun v=>bindName X.env y v,fun v=>bindName X.env x v] items.reverse; pure Flow.next) _ _ _
 refine aW (rB (aW (unpackItems_tuple (items:=#[u1,u2]) (I.ok.hd hc) (IsTup.new s1.heap _) fun h' hx'=>?_)))
 have I3:=I2.kept (h':=h') (t':=s1.toks) fun b o e=>hx' b o (gw (cC e)) e
 show wpAny _ _ (assignInOrder [fun v=>bindName X.env y v,fun v=>bindName X.env x v] [u2,u1] >>= fun _=>pure Flow.next) _ _ _
 refine aW (assignInOrder_cons (wpAny_bindName (jd I3 hN hj (.inl hy) Z5 (fun s2 I4=>?_) (.inr hy))))
 refine assignInOrder_cons (wpAny_bindName (jd I4 hN hi (.inl hx) rv (fun s3 I5=>assignInOrder_nil (bV ?_)) (.inr hx)))
 rw[List.set_comm _ _ (Ne.symm hij)] at I5
 exact⟨_,H1,I5,q1⟩
noncomputable def acp (i:Nat) (te:TE) (ti:TIp):TS:=fun D σ H=>∃x,σ[i]?=some (some x)/\te σ H fun y H1=>ti x y H1 fun z H2=>D.nx (σ.set i (some z)) H2
theorem xf {i:Nat} {x:Str} {e:Expr} {te:TE} {op:Operator} {ti:TIp} {pos':Pos} (hN:X.N.Nodup) (hi:X.N[i]?=some x) (hx:Loc X.env.scope x) (he:PE X e te) (ho:PIp X op ti) (hf:X.fn x=true\/X.env.scope.names.lookup x=some .local:=by first | exact .inl rfl | exact .inr rfl | assumption) :
  PS X (.AugAssign (.Name x pos') op e pos) (acp i te ti):=by
 refine .mk ?_
 intro pins s σ H D I h
 obtain⟨v,e1,h⟩:=h
 obtain⟨m,hn,hl⟩:=I.loc
 have vis:Vis X.env.scope x:=by rcases hx with k | k; exact .inl k; exact .inr (.inl k)
 obtain⟨u,r,l⟩:=hl i x v hi e1 vis
 refine wpAny_AugAssign_Name ?_
 have go:wpAny (model X.prog X.w) X.A (eval e X.env) (fun w s₂=>wpAny (model X.prog X.w) X.A (inplaceOp op u w) (fun r s₃=>wpAny (model X.prog X.w) X.A (storeName X.env x r) (fun _=>SP X pins D .next) X.xe s₃) X.xe s₂) X.xe s:=by
  refine cT (he pins s σ H _ I h) fun w s1 qx=>?_
  obtain⟨y,H1,I1,r1,q1⟩:=qx
  refine cT (ho pins s1 σ H1 v y u w _ I1 r r1 q1) fun z s2 qx=>?_
  obtain⟨zv,H2,I2,r2,q2⟩:=qx
  exact jd I2 hN hi hx r2 (fun s3 I3=>⟨_,H2,I3,q2⟩) hf
 rcases l with⟨hk,hm⟩ | ⟨hk,c,hc,hcell⟩
 ·exact wpAny_loadName_local I.ok.kind hk hn hm go
 ·rcases hk with hk | hk
  ·exact wpAny_loadName_cell I.ok.kind hk hc hcell go
  ·rcases hx with k | k
   ·have:X.env.scope.names.lookup x=some .free:=hk
    rw[k] at this; cases this
   ·have:X.env.scope.names.lookup x=some .free:=hk
    rw[k] at this; cases this
noncomputable def Yx (to ti te:TE) (Wc:V->V->Hp->VK->Prop) (tip:TIp) (Wb:Q9):TS:=fun D σ H=>to σ H fun o H1=>ti σ H1 fun i H2=>Wc o i H2 fun x H3=>te σ H3 fun y H4=>tip x y H4 fun z H5=>Wb o i z H5 fun H6=>D.nx σ H6
noncomputable def adL (X:Cx) (t:V->V->Hp->VK->Prop):Prop:=
 ∀(pins:List (Addr×Obj)) (s:Shared) (σ:St) (H:Hp) (o i:V) (ov iv:Value) (Q:VK),Inv X pins σ H s->RelV o ov->RelV i iv->t o i H Q ->
  wpAny (model X.prog X.w) X.A (getItem ov iv) (EP X pins σ Q) X.xe s
theorem WQ {o i e:Expr} {to ti te:TE} {Wc:V->V->Hp->VK->Prop} {tip:TIp} {Wb:Q9} {op:Operator} {tpos:Pos} (ho:PE X o to) (hi:PE X i ti) (hg:adL X Wc) (he:PE X e te) (hp:PIp X op tip) (hs:Rc X Wb)
  (ha:∀ov iv new,augStore i ov iv new=(do holding [new,ov,iv] (setItem ov iv new); release [new,ov,iv] []; pure .next):=by intros; rfl):PS X (.AugAssign (.Subscript o i tpos) op e pos) (Yx to ti te Wc tip Wb):=by
 refine .mk ?_
 intro pins s σ H D I h
 refine wpAny_AugAssign_SubscriptAny (cT (ho pins s σ H _ I h) fun ov s1 qx=>?_) ha
 obtain ⟨x1,H1,I1,r1,q1⟩:=qx
 refine cT (hi pins s1 σ H1 _ I1 q1) fun iv s2 qx=>?_
 obtain⟨x2,H2,I2,r2,q2⟩:=qx
 refine cT (hg pins s2 σ H2 x1 x2 ov iv _ I2 r1 r2 q2) fun old s3 qx=>?_
 obtain⟨x3,H3,I3,r3,q3⟩:=qx
 refine cT (he pins s3 σ H3 _ I3 q3) fun v s4 qx=>?_
 obtain⟨x4,H4,I4,r4,q4⟩:=qx
 refine cT (hp pins s4 σ H4 x3 x4 old v _ I4 r3 r4 q4) fun new s5 qx=>?_
 obtain⟨x5,H5,I5,r5,q5⟩:=qx
 exact cT (hs pins s5 σ H5 x1 x2 x5 ov iv new _ I5 r1 r2 r5 q5) fun _ s6 ⟨H6,I6,q6⟩=>⟨σ,H6,I6,q6⟩
noncomputable def ipI (f:Int->Int->Int):TIp:=fun x y H Q=>∃i j,x=.int i/\y=.int j/\Q (.int (f i j)) H
theorem J5:PIp X .Add (ipI fun i j=>i+j):=by
 intro pins s σ H x y v u Q I r1 r2 h
 obtain⟨i,j,e1,e2,q⟩:=h
 subst e1; subst e2
 obtain⟨t,rfl⟩:=r1
 obtain⟨t',rfl⟩:=r2
 exact iadd_int ⟨.int _,H,I.tok _,⟨_,rfl⟩,q⟩
theorem J4:PIp X .Sub (ipI fun i j=>i-j):=by
 intro pins s σ H x y v u Q I r1 r2 h
 obtain⟨i,j,e1,e2,q⟩:=h
 subst e1; subst e2
 obtain⟨t,rfl⟩:=r1
 obtain⟨t',rfl⟩:=r2
 exact isub_int ⟨.int _,H,I.tok _,⟨_,rfl⟩,q⟩
end
section
variable {X:Cx} {pos:Pos}
noncomputable def ZD (c:TT) (tb:TS):TS:=fun D σ H=>∃W:Nat->St->Hp->Prop,(∃m,W m σ H)/\∀m σ H,W m σ H ->
 c σ H fun b H1=>if b=true then ∃N:St->Hp->Prop,(∀σ' H',N σ' H'->∃m',m'<m/\W m' σ' H')/\tb { D with nx:=N,ct:=N,bk:=D.nx } σ H1 else D.nx σ H1
theorem wZ {c:Expr} {body:List Stmt} {tc:TT} {tb:TS} (hp:PassesOwn (model X.prog X.w) X.A X.env X.xe) (hc:PT X c tc) (hb:zV X body tb):PS X (.While c body [] pos) (ZD tc tb):=by
 refine .mk ?_
 intro pins s σ H D I h
 obtain⟨W,⟨m0,w0⟩,turn⟩:=h
 refine wpAny_While (codeAny_whileLoop (fun n s'=>∃σ' H',Inv X pins σ' H' s'/\W n σ' H') ?_ m0 ⟨σ,H,I,w0⟩)
 rintro n s1 ⟨σ1,H1,I1,w1⟩
 refine Jw hp (cT (hc pins s1 σ1 H1 _ I1 (turn n σ1 H1 w1)) fun b s2 qx=>?_)
 obtain⟨H2,I2,q2⟩:=qx
 cases b with
 | true=>
  obtain⟨N,hN,q2⟩:=q2
  rw[aP rfl]
  refine Jw hp (cT (hb pins s2 σ1 H2 _ I2 q2) fun f s3 q3=>?_)
  cases f with
  | next=>
   obtain⟨σ3,H3,I3,n3⟩:=q3
   obtain⟨m',hm,w3⟩:=hN σ3 H3 n3
   exact⟨m',hm,σ3,H3,I3,w3⟩
  | cont=>
   obtain⟨σ3,H3,I3,n3⟩:=q3
   obtain⟨m',hm,w3⟩:=hN σ3 H3 n3
   exact⟨m',hm,σ3,H3,I3,w3⟩
  | brk=>exact q3
  | ret v=>exact q3
 | false=>
  rw[bB lK]
  exact Ba ⟨σ1,H2,I2,q2⟩
end
structure It where
 go:Nat->Hp->Prop
 vH:Nat->Hp->V->Hp->Prop
 stop:Nat->Hp->Prop
noncomputable def ik (X:Cx) (pins:List (Addr×Obj)) (H:Hp) (b:Addr):Prop:=
 H b=none/\b≠X.env.locals/\b∉X.fs/\(b∈X.ex\/X.s₀.heap.objs.size<=b)/\(∀x c,X.env.cells.lookup x=some c->c≠b)/\∀p∈X.pn++pins,p.1≠b
theorem Inv.tY {X:Cx} {pins:List (Addr×Obj)} {σ:St} {H H':Hp} {s:Shared} {b:Addr} (I:Inv X pins σ H s) (hb:s.heap.objs.size<=b) (hn:H' b=none):ik X pins H' b:=by
 refine⟨hn,GD (jU I.lt hb),I.aeT hb,.inr (n_ I.sz hb),fun x c e z=>?_,fun p hp z=>?_⟩
 ·obtain⟨v,q⟩:=I.cell x c e
  exact absurd (jU q.lt (by rw[z]; exact hb)) (tM _)
 ·exact absurd (jU (cC (I.pin p hp).1) (by rw[z]; exact hb)) (tM _)
structure Turn (P:Program) (w:World) (K:PySem.W.Frag) (tg:Expr) (J:It) (fp:List Addr) (it:Addr) (tn:Nat->Heap->Prop):Prop where
 mem:it∈fp
 obj:∀i h,tn i h->∀b∈fp,∃o,h.get? b=some o/\∀v,o.data≠.cell v
 keep:∀i h h',tn i h->(∀b∈fp,∀o,h.get? b=some o->h'.get? b=some o)->tn i h'
 item:∀(X:Cx),X.prog=P->X.w=w->X.K=K->X.calm=true->∀(i:Nat) (pins:List (Addr×Obj)) (s:Shared) (σ:St) (H:Hp) (E:Value->Shared->Prop),Inv X pins σ H s->(∀b∈fp,ik X pins H b)->tn i s.heap->J.go i H ->
  wpAny (model P w) X.A (pyNext (.ref it)) (fun r s1=>∃u,r=some u /\
   wpAny (model P w) X.A (letOwnedTupleGo tg (.ref it) u) (fun _ s2=>∃x H',Inv X pins σ H' s2/\RelV x u/\J.vH i H x H'/\tn (i+1) s2.heap/\∀b∈fp,H' b=none) E s1) E s
 done:∀(X:Cx),X.prog=P->X.w=w->X.K=K->X.calm=true->∀(i:Nat) (pins:List (Addr×Obj)) (s:Shared) (σ:St) (H:Hp) (E:Value->Shared->Prop),Inv X pins σ H s->(∀b∈fp,ik X pins H b)->tn i s.heap->J.stop i H ->
  wpAny (model P w) X.A (pyNext (.ref it)) (fun r s1=>r=none/\Inv X pins σ H s1) E s
 self:∀(A:Around) (i:Nat) (s:Shared) (Q:Value->Shared->Prop) (E:Value->Shared->Prop),tn i s.heap->Q (.ref it) s->wpAny (model P w) A (pyIter (.ref it)) Q E s
noncomputable abbrev TI:=St->Hp->(It->Hp->Prop)->Prop
noncomputable def PIE (X:Cx) (pins:List (Addr×Obj)) (σ:St) (tg:Expr) (R:It->Hp->Prop) (itv:Value) (s2:Shared):Prop:=
 ∃(it:Addr) (fp:List Addr) (tn:Nat->Heap->Prop) (J:It) (H':Hp),itv=.ref it/\Inv X pins σ H' s2/\Turn X.prog X.w X.K tg J fp it tn/\tn 0 s2.heap/\(∀b∈fp,ik X pins H' b)/\R J H'
structure PI (X:Cx) (tg iter:Expr) (wi:TI):Prop where
 mk ::
 go :
 ∀(pins:List (Addr×Obj)) (s:Shared) (σ:St) (H:Hp) (R:It->Hp->Prop),Inv X pins σ H s->wi σ H R ->
  wpAny (model X.prog X.w) X.A (eval iter X.env) (fun v s1=>wpAny (model X.prog X.w) X.A (pyIter v) (PIE X pins σ tg R) X.xe s1) X.xe s
instance {X:Cx} {tg iter:Expr} {wi:TI}:CoeFun (PI X tg iter wi) (fun _=>
 ∀(pins:List (Addr×Obj)) (s:Shared) (σ:St) (H:Hp) (R:It->Hp->Prop),Inv X pins σ H s->wi σ H R ->
  wpAny (model X.prog X.w) X.A (eval iter X.env) (fun v s1=>wpAny (model X.prog X.w) X.A (pyIter v) (PIE X pins σ tg R) X.xe s1) X.xe s):=⟨PI.go⟩
theorem NZ {M:Model} {A:Around} {E:Value->Shared->Prop} {s:Shared} {tg:Expr} {it:Addr} {u:Value} {o:Obj} {n:String} {vs:Array Value} {Q:Unit->Shared->Prop} (ho:s.heap.get? it=some o) (hc:o.cls=.type n) (hd:o.data=.fields vs)
  (hn:["enumerate","zip","dict_itemiterator","dict_reverseitemiterator","odict_iterator","itertools.zip_longest","itertools.pairwise"].contains n=false) (hQ:Q () s):wpAny M A (letOwnedTupleGo tg (.ref it) u) Q E s:=by
 unfold letOwnedTupleGo
 cases tg <;> first
  | exact bV hQ
  | (cases u <;> first
    | exact bV hQ
    | (refine aW (wpAny_load ho ?_)
       rw[hc,hd]
       show wpAny M A (if(["enumerate","zip","dict_itemiterator","dict_reverseitemiterator","odict_iterator","itertools.zip_longest","itertools.pairwise"].contains n&&vs[0]?==some (rawInt _))=true then _ else _) Q E s
       rw[bB (by intro h; rw[hn,Bool.false_and] at h; cases h)]
       exact bV hQ))
noncomputable def Zk (K:PySem.W.Frag) (a:Addr):It:=
 ⟨fun i H=>∃xs x,dh K H a xs/\xs[i]?=some x,fun i H x H'=>H'=H/\∀xs,dh K H a xs->xs[i]?=some x,fun i H=>∃xs,dh K H a xs/\xs.length<=i⟩
noncomputable def Zj (K:PySem.W.Frag) (a:Addr):It:=
 ⟨fun i H=>∃xs x,cB K H a xs/\xs[i]?=some x,fun i H x H'=>H'=H/\∀xs,cB K H a xs->xs[i]?=some x,fun i H=>∃xs,cB K H a xs/\xs.length<=i⟩
noncomputable def Rt (lo:Int) (n:Nat):It:=⟨fun i _=>i<n,fun i H x H'=>H'=H/\x=.int (lo+i),fun i _=>n<=i⟩
theorem O3 {P:Program} {w:World} {K:PySem.W.Frag} {tg:Expr} (a it:Addr):Turn P w K tg (Zk K a) [it] it (fun i h=>h.IsListIter it a i) where
 mem:=by simp
 obj:=fun i h st b hb=>by
  have e:b=it:=by simpa using hb
  subst e
  obtain⟨o,e,c,d⟩:=st
  exact⟨o,e,fun v z=>by rw[d] at z; cases z⟩
 keep:=fun i h h' st k=>st.at fun o e=>k it (by simp) o e
 item:=by
  intro X hP hw hK hc i pins s σ H E I hf st hg
  subst hP hw hK
  obtain⟨xs,x,hq,hx⟩:=hg
  obtain⟨its,rv,p,hz⟩:=I.list hq
  obtain⟨u,hu,ru⟩:=rv.get hx
  obtain⟨f0,f1,f2,f3,f4,f5⟩:=hf it (by simp)
  refine wpAny_pyNext_list_item st p.isList (x:=u) (by simpa using hu) fun h' st' sb=>?_
  have I1:Inv X pins σ H { s with heap:=h' }:=I.turned (t':=s.toks) (fun b o hb e=>(sb.2 b hb).trans e) f0 f1 f3 f4 f5
  obtain⟨o,e,c,d⟩:=id st'
  exact⟨u,rfl,NZ (s:={ s with heap:=h' }) e c d (by decide) ⟨x,H,I1,ru,⟨rfl,fun ys hy=>by rw[I.xP hy hq]; exact hx⟩,st',fun b hb=>(hf b hb).1⟩⟩
 done:=by
  intro X hP hw hK hc i pins s σ H E I hf st hg
  subst hP hw hK
  obtain⟨xs,hq,hx⟩:=hg
  obtain⟨its,rv,p,hz⟩:=I.list hq
  obtain⟨f0,f1,f2,f3,f4,f5⟩:=hf it (by simp)
  have hl:=rv.length
  exact wpAny_pyNext_list_end (I.ok.hd hc) st p.isList (by simp; omega) fun h' eb=>⟨rfl,I.turned (t':=s.toks) (fun b o hb e=>eb b o hb e) f0 f1 f3 f4 f5⟩
 self:=fun _ _ _ _ _ st h=>wpAny_pyIter_listiter st h
theorem Ja {P:Program} {w:World} {K:PySem.W.Frag} {tg:Expr} (a it:Addr):Turn P w K tg (Zj K a) [it] it (fun i h=>h.IsTupleIter it a i) where
 mem:=by simp
 obj:=fun i h st b hb=>by
  have e:b=it:=by simpa using hb
  subst e
  obtain⟨o,e,c,d⟩:=st
  exact⟨o,e,fun v z=>by rw[d] at z; cases z⟩
 keep:=fun i h h' st k=>st.at fun o e=>k it (by simp) o e
 item:=by
  intro X hP hw hK hc i pins s σ H E I hf st hg
  subst hP hw hK
  obtain⟨xs,x,hq,hx⟩:=hg
  obtain⟨its,rv,p,hz⟩:=I.tuple hq
  obtain⟨u,hu,ru⟩:=rv.get hx
  obtain⟨f0,f1,f2,f3,f4,f5⟩:=hf it (by simp)
  refine wpAny_pyNext_tuple_item st (show s.heap.IsTuple a its.toArray from p) (x:=u) (by simpa using hu) fun h' st' sb=>?_
  have I1:Inv X pins σ H { s with heap:=h' }:=I.turned (t':=s.toks) (fun b o hb e=>(sb.2 b hb).trans e) f0 f1 f3 f4 f5
  obtain⟨o,e,c,d⟩:=id st'
  exact⟨u,rfl,NZ (s:={ s with heap:=h' }) e c d (by decide) ⟨x,H,I1,ru,⟨rfl,fun ys hy=>by rw[I.sU hy hq]; exact hx⟩,st',fun b hb=>(hf b hb).1⟩⟩
 done:=by
  intro X hP hw hK hc i pins s σ H E I hf st hg
  subst hP hw hK
  obtain⟨xs,hq,hx⟩:=hg
  obtain⟨its,rv,p,hz⟩:=I.tuple hq
  obtain⟨f0,f1,f2,f3,f4,f5⟩:=hf it (by simp)
  have hl:=rv.length
  exact wpAny_pyNext_tuple_end (I.ok.hd hc) st (show s.heap.IsTuple a its.toArray from p) (by simp; omega) fun h' eb=>⟨rfl,I.turned (t':=s.toks) (fun b o hb e=>eb b o hb e) f0 f1 f3 f4 f5⟩
 self:=fun _ _ _ _ _ st h=>wpAny_pyIter_tupleiter st h
theorem Jb {P:Program} {w:World} {K:PySem.W.Frag} {tg:Expr} (it:Addr) (lo:Int) (n:Nat):Turn P w K tg (Rt lo n) [it] it (fun i h=>IsRangeIter h it (lo+(i:Nat)*1) ((n:Int)-(i:Nat)) 1) where
 mem:=by simp
 obj:=fun i h st b hb=>by
  have e:b=it:=by simpa using hb
  subst e
  exact⟨_,st,fun v z=>by
   have z':Data.fields _=Data.cell v:=z
   cases z'⟩
 keep:=fun i h h' st k=>k it (by simp) _ st
 item:=by
  intro X hP hw hK hc i pins s σ H E I hf st hg
  subst hP hw hK
  obtain⟨f0,f1,f2,f3,f4,f5⟩:=hf it (by simp)
  have W:=Walks.range (prog:=X.prog) (w:=X.w) (I.ok.hd hc) it lo 1 n
  refine W.item i s _ _ hg st fun v h' tk hv st' kk=>?_
  obtain⟨t,rfl⟩:=hv
  have I1:Inv X pins σ H { s with heap:=h',toks:=tk }:=I.turned (fun b o hb e=>kk b o (by simpa using hb) e) f0 f1 f3 f4 f5
  refine⟨_,rfl,NZ (s:={ s with heap:=h',toks:=tk }) (n:="range_iterator") st' rfl rfl (by decide) ⟨.int (lo+i),H,I1,⟨t,?_⟩,⟨rfl,rfl⟩,st',fun b hb=>(hf b hb).1⟩⟩
  rw[Int.mul_one]
 done:=by
  intro X hP hw hK hc i pins s σ H E I hf st hg
  subst hP hw hK
  obtain⟨f0,f1,f2,f3,f4,f5⟩:=hf it (by simp)
  exact wpAny_pyNext_range_end (I.ok.hd hc) st (by have:n<=i:=hg; omega) fun h' eb=>⟨rfl,I.turned (t':=s.toks) (fun b o hb e=>eb b o hb e) f0 f1 f3 f4 f5⟩
 self:=fun _ _ _ _ _ st h=>Th st h
section
variable {X:Cx} {tg:Expr}
noncomputable def x_ (K:PySem.W.Frag) (tl:TE):TI:=fun σ H R=>tl σ H fun x H1=>∃a,x=.ref a/\(∃xs,dh K H1 a xs)/\R (Zk K a) H1
noncomputable def xZ (K:PySem.W.Frag) (tl:TE):TI:=fun σ H R=>tl σ H fun x H1=>∃a,x=.ref a/\(∃xs,cB K H1 a xs)/\R (Zj K a) H1
theorem WX {l:Expr} {tl:TE} (hl:PE X l tl):PI X tg l (x_ X.K tl):=by
 refine .mk ?_
 intro pins s σ H R I h
 refine cT (hl pins s σ H _ I h) fun v s1 qx=>?_
 obtain⟨x,H1,I1,r1,q1⟩:=qx
 obtain⟨a,e,⟨xs,hq⟩,q⟩:=q1
 subst e
 cases r1
 obtain⟨its,rv,p,hz⟩:=I1.list hq
 refine Jy p.isList ?_
 refine⟨s1.heap.objs.size,[s1.heap.objs.size],_,_,H1,rfl,I1.kept (t':=s1.toks) fun b o e=>dY _ e,O3 a _,⟨_,dJ _ rfl,rfl,rfl⟩,fun b hb=>?_,q⟩
 have e:b=s1.heap.objs.size:=by simpa using hb
 subst e
 exact I1.tY (bI _) (I1.hok.fresh (bI _))
theorem aah {l:Expr} {tl:TE} (hl:PE X l tl):PI X tg l (xZ X.K tl):=by
 refine .mk ?_
 intro pins s σ H R I h
 refine cT (hl pins s σ H _ I h) fun v s1 qx=>?_
 obtain⟨x,H1,I1,r1,q1⟩:=qx
 obtain⟨a,e,⟨xs,hq⟩,q⟩:=q1
 subst e
 cases r1
 obtain⟨its,rv,p,hz⟩:=I1.tuple hq
 refine JB (show s1.heap.IsTuple a its.toArray from p) ?_
 refine⟨s1.heap.objs.size,[s1.heap.objs.size],_,_,H1,rfl,I1.kept (t':=s1.toks) fun b o e=>dY _ e,Ja a _,⟨_,dJ _ rfl,rfl,rfl⟩,fun b hb=>?_,q⟩
 have e:b=s1.heap.objs.size:=by simpa using hb
 subst e
 exact I1.tY (bI _) (I1.hok.fresh (bI _))
theorem S9 {pins:List (Addr×Obj)} {σ:St} {H:Hp} {s:Shared} {R:It->Hp->Prop} {E:Value->Shared->Prop} {lo hi:Int} {t u v:Tok} {tk:Nat} (I:Inv X pins σ H s) (h1:-(2 ^ 62)<=lo) (h2:lo<2 ^ 62) (h3:-(2 ^ 62)<=hi) (h4:hi<2 ^ 62)
  (q:R (Rt lo (hi-lo).toNat) H):wpAny (model X.prog X.w) X.A (pyIter (.ref s.heap.objs.size)) (PIE X pins σ tg R) E { s with heap:=s.heap.push { cls:=.type "range",data:=.fields #[.int lo t,.int hi u,.int 1 v] },toks:=tk }:=by
 refine wpAny_pyIter_range (IsRange.new ..) (small_one h1 h2 h3 h4) ?_
 have I1:Inv X pins σ H { s with heap:=s.heap.push { cls:=.type "range",data:=.fields #[.int lo t,.int hi u,.int 1 v] },toks:=tk }:=I.kept fun b o e=>dY _ e
 refine⟨(s.heap.push { cls:=.type "range",data:=.fields #[.int lo t,.int hi u,.int 1 v] }).objs.size,[(s.heap.push { cls:=.type "range",data:=.fields #[.int lo t,.int hi u,.int 1 v] }).objs.size],_,_,H,rfl,
  I1.kept (t':=tk) fun b o e=>dY _ e,Jb _ lo (hi-lo).toNat,?_,fun b hb=>?_,q⟩
 ·have e1:lo+((0:Nat):Int)*1=lo:=by simp
  have e2:(((hi-lo).toNat:Nat):Int)-((0:Nat):Int)=Builtin.Range.rangeSize lo hi 1:=by rw[rangeSize_one]; split <;> omega
  show IsRangeIter _ _ (lo+((0:Nat):Int)*1) ((((hi-lo).toNat:Nat):Int)-((0:Nat):Int)) 1
  rw[e1,e2]
  exact dJ _ rfl
 ·have e:b=(s.heap.push { cls:=.type "range",data:=.fields #[.int lo t,.int hi u,.int 1 v] }).objs.size:=by simpa using hb
  subst e
  exact I1.tY (bI _) (I1.hok.fresh (bI _))
noncomputable def Bs (ta:TA):TI:=fun σ H R=>ta σ H fun vs H1=>∃j:Int,vs=[.int j]/\-(2 ^ 62)<=j/\j<2 ^ 62/\R (Rt 0 j.toNat) H1
theorem d_ {a:Expr} {ta:TA} {p pos:Pos} (hg:Gl X "range") (hm:X.mg "range" = none) (ha:PA X [a] ta) (hs:starEach [a] X.env=[(false,eval a X.env)]:=by rfl):PI X tg (.Call (.Name "range" p) [a] [] pos) (Bs ta):=by
 refine .mk ?_
 intro pins s σ H R I h
 refine Call_ (iV I hg hm boot_range (PyProof.Rows.callWith_type1 (cT (ha pos pins s σ H _ I h) fun us s1 qx=>?_) hs rfl))
 obtain ⟨vs,H1,I1,r1,q1⟩:=qx
 obtain⟨j,e,q1,q2,q⟩:=q1
 subst e
 cases r1 with
 | cons r rr=>
  cases rr
  obtain⟨t,rfl⟩:=r
  exact call_range_1 (S9 I1 (by omega) (by omega) q1 q2 (by simpa using q))
noncomputable def yS (wi:TI) (g:TG) (tb:TS):TS:=fun D σ H=>wi σ H fun J H1=>∃W:Nat->Nat->St->Hp->Prop,(∃m,W 0 m σ H1)/\∀i m σ H,W i m σ H ->
 (J.stop i H/\D.nx σ H)\/(J.go i H/\∃N:St->Hp->Prop,(∀σ' H',N σ' H'->∃m',m'<m/\W (i+1) m' σ' H')/\∀x H',J.vH i H x H'->g x σ H' fun σ2 H2=>tb { D with nx:=N,ct:=N,bk:=D.nx } σ2 H2)
noncomputable def Dk (fp:List Addr) (h:Heap):List (Addr×Obj):=fp.filterMap fun b=>(h.get? b).map fun o=>(b,o)
theorem dD {fp:List Addr} {h:Heap} {b:Addr} {o:Obj} (hb:b∈fp) (e:h.get? b=some o):(b,o)∈Dk fp h:=List.mem_filterMap.mpr ⟨b,hb,by rw[e]; rfl⟩
theorem Qq {fp:List Addr} {h:Heap} {p:Addr×Obj} (hp:p∈Dk fp h):p.1∈fp/\h.get? p.1=some p.2:=by
 obtain⟨b,hb,e⟩:=List.mem_filterMap.mp hp
 cases q:h.get? b with
 | none=>rw[q] at e; cases e
 | some o=>
  rw[q] at e
  have e':(b,o)=p:=Option.some.inj e
  subst e'
  exact⟨hb,q⟩
theorem Inv.pinned {pins:List (Addr×Obj)} {σ:St} {H:Hp} {s:Shared} {fp:List Addr} (I:Inv X pins σ H s) (hf:∀b∈fp,ik X pins H b) (ho:∀b∈fp,∃o,s.heap.get? b=some o/\∀v,o.data≠.cell v):Inv X (pins++Dk fp s.heap) σ H s:=
 I.My fun p hp=>(m_.mp hp).elim (fun z=>I.pin p (jf _ z)) fun z=>by
  obtain⟨hb,e⟩:=Qq z
  obtain⟨f0,f1,f2,_⟩:=hf p.1 hb
  obtain⟨o,e',d⟩:=ho p.1 hb
  rw[e] at e'; cases e'
  exact⟨e,f0,f1,f2,d⟩
theorem Inv.jc {pins pl:List (Addr×Obj)} {σ:St} {H:Hp} {s:Shared} (I:Inv X (pins++pl) σ H s):Inv X pins σ H s:=I.My fun p hp=>I.pin p (jf _ (Hd _ hp))
theorem gb {iter:Expr} {body:List Stmt} {wi:TI} {g:TG} {tb:TS} {pos:Pos} (hp:PassesOwn (model X.prog X.w) X.A X.env X.xe) (hc:X.calm=true) (hi:PI X tg iter wi) (hg:PG X tg g) (hb:zV X body tb)
  (hs:∀x,foldedSetIterable iter X.env x=pure x:=by intro _; rfl):PS X (.For tg iter body [] pos) (yS wi g tb):=by
 refine .mk ?_
 intro pins s σ H D I h
 refine wpAny_For (cT (hi pins s σ H _ I h) fun v s1 h1=>cT h1 fun itv s2 h2=>?_) hs
 obtain⟨it,fp,tn,J,H2,e,I2,T,st2,f2,W,⟨m0,w0⟩,turn⟩:=h2
 subst e
 have stat:∀{H':Hp},(∀b∈fp,H' b=none)->∀b∈fp,ik X pins H' b:=fun hn b hb=>⟨hn b hb,(f2 b hb).2⟩
 refine codeAny_forLoop_any (fun n s'=>∃i σ' H',Inv X pins σ' H' s'/\tn i s'.heap/\(∀b∈fp,H' b=none)/\W i n σ' H') ?_ m0 ⟨0,σ,H2,I2,st2,fun b hb=>(f2 b hb).1,w0⟩
 rintro n s3 ⟨i,σ3,H3,I3,st3,fr3,w3⟩
 rcases turn i n σ3 H3 w3 with⟨stop,qn⟩ | ⟨go,N,hN,step⟩
 ·refine Jw hp (cT (T.done X rfl rfl rfl hc i pins s3 σ3 H3 X.xe I3 (stat fr3) st3 stop) fun r s4 qx=>?_)
  obtain⟨hr,I4⟩:=qx
  subst hr
  exact Ba ⟨σ3,H3,I4,qn⟩
 ·refine Jw hp (cT (T.item X rfl rfl rfl hc i pins s3 σ3 H3 X.xe I3 (stat fr3) st3 go) fun r s4 qx=>?_)
  obtain⟨u,hr,h4⟩:=qx
  subst hr
  refine Jw hp (cT h4 fun _ s5 qx=>?_)
  obtain⟨x,H5,I5,r5,y5,Wj,fr5⟩:=qx
  have I5':=I5.pinned (stat fr5) (T.obj _ _ Wj)
  refine Jw hp (cT (hg _ s5 σ3 H5 x u _ I5' r5 (step x H5 y5)) fun _ s6 qx=>?_)
  obtain⟨σ6,H6,I6,q6⟩:=qx
  refine Jw hp (cT (hb _ s6 σ6 H6 _ I6 q6) fun f s7 q7=>?_)
  have again:∀{σ7:St} {H7:Hp},Inv X (pins++Dk fp s5.heap) σ7 H7 s7->N σ7 H7->∃m,m<n/\∃i σ' H',Inv X pins σ' H' s7/\tn i s7.heap/\(∀b∈fp,H' b=none)/\W i m σ' H':=fun {σ7 H7} I7 n7=>by
   obtain⟨m',hm,w7⟩:=hN σ7 H7 n7
   refine⟨m',hm,i+1,σ7,H7,I7.jc,T.keep _ _ _ Wj fun b hb o e=>(I7.pin (b,o) (jf _ (jf _ (dD hb e)))).1,fun b hb=>?_,w7⟩
   obtain⟨o,e,d⟩:=T.obj _ _ Wj b hb
   exact(I7.pin (b,o) (jf _ (jf _ (dD hb e)))).2.1
  cases f with
  | next=>obtain⟨σ7,H7,I7,n7⟩:=q7; exact again I7 n7
  | cont=>obtain⟨σ7,H7,I7,n7⟩:=q7; exact again I7 n7
  | brk=>obtain⟨σ7,H7,I7,q7⟩:=q7; exact⟨σ7,H7,I7.jc,q7⟩
  | ret v=>obtain⟨x7,σ7,H7,I7,r7,q7⟩:=q7; exact⟨x7,σ7,H7,I7.jc,r7,q7⟩
end
theorem U5 {K:PySem.W.Frag} {a:Addr} {xs:List V} {g:TG} {tb:TS} {D:Ends} {σ:St} {H:Hp} (Pv:Nat->St->Hp->Prop) (h0:Pv 0 σ H) (hl:∀i σ H,i<=xs.length->Pv i σ H->dh K H a xs)
  (hs:∀i x σ H,xs[i]?=some x->Pv i σ H->g x σ H fun σ2 H2=>tb { D with nx:=Pv (i+1),ct:=Pv (i+1),bk:=D.nx } σ2 H2) (hd:∀σ H,Pv xs.length σ H->D.nx σ H) :
  ∃W:Nat->Nat->St->Hp->Prop,(∃m,W 0 m σ H)/\∀i m σ H,W i m σ H ->
   ((Zk K a).stop i H/\D.nx σ H)\/((Zk K a).go i H/\∃N:St->Hp->Prop,(∀σ' H',N σ' H'->∃m',m'<m/\W (i+1) m' σ' H')/\∀x H',(Zk K a).vH i H x H'->g x σ H' fun σ2 H2=>tb { D with nx:=N,ct:=N,bk:=D.nx } σ2 H2):=by
 refine⟨fun i m σ H=>m=xs.length-i/\i<=xs.length/\Pv i σ H,⟨xs.length,by simp,e_ _,h0⟩,?_⟩
 rintro i m σ H ⟨rfl,hi,p⟩
 have q:=hl i σ H hi p
 by_cases hlt:i<xs.length
 ·refine .inr ⟨⟨xs,xs[i],q,by simp[hlt]⟩,Pv (i+1),fun σ' H' p'=>⟨xs.length-(i+1),by omega,rfl,hlt,p'⟩,fun x H' y=>?_⟩
  obtain⟨e,y⟩:=y
  subst e
  exact hs i x σ _ (y xs q) p
 ·have e:i=xs.length:=by omega
  subst e
  exact .inl ⟨⟨xs,q,bI _⟩,hd σ H p⟩
theorem XJ {K:PySem.W.Frag} {a:Addr} {xs:List V} {g:TG} {tb:TS} {D:Ends} {σ:St} {H:Hp} (Pv:Nat->St->Hp->Prop) (h0:Pv 0 σ H) (hl:∀i σ H,i<=xs.length->Pv i σ H->cB K H a xs)
  (hs:∀i x σ H,xs[i]?=some x->Pv i σ H->g x σ H fun σ2 H2=>tb { D with nx:=Pv (i+1),ct:=Pv (i+1),bk:=D.nx } σ2 H2) (hd:∀σ H,Pv xs.length σ H->D.nx σ H) :
  ∃W:Nat->Nat->St->Hp->Prop,(∃m,W 0 m σ H)/\∀i m σ H,W i m σ H ->
   ((Zj K a).stop i H/\D.nx σ H)\/((Zj K a).go i H/\∃N:St->Hp->Prop,(∀σ' H',N σ' H'->∃m',m'<m/\W (i+1) m' σ' H')/\∀x H',(Zj K a).vH i H x H'->g x σ H' fun σ2 H2=>tb { D with nx:=N,ct:=N,bk:=D.nx } σ2 H2):=by
 refine⟨fun i m σ H=>m=xs.length-i/\i<=xs.length/\Pv i σ H,⟨xs.length,by simp,e_ _,h0⟩,?_⟩
 rintro i m σ H ⟨rfl,hi,p⟩
 have q:=hl i σ H hi p
 by_cases hlt:i<xs.length
 ·refine .inr ⟨⟨xs,xs[i],q,by simp[hlt]⟩,Pv (i+1),fun σ' H' p'=>⟨xs.length-(i+1),by omega,rfl,hlt,p'⟩,fun x H' y=>?_⟩
  obtain⟨e,y⟩:=y
  subst e
  exact hs i x σ _ (y xs q) p
 ·have e:i=xs.length:=by omega
  subst e
  exact .inl ⟨⟨xs,q,bI _⟩,hd σ H p⟩
theorem Bx {lo:Int} {n:Nat} {g:TG} {tb:TS} {D:Ends} {σ:St} {H:Hp} (Pv:Nat->St->Hp->Prop) (h0:Pv 0 σ H)
  (hs:∀i σ H,i<n->Pv i σ H->g (.int (lo+i)) σ H fun σ2 H2=>tb { D with nx:=Pv (i+1),ct:=Pv (i+1),bk:=D.nx } σ2 H2) (hd:∀σ H,Pv n σ H->D.nx σ H) :
  ∃W:Nat->Nat->St->Hp->Prop,(∃m,W 0 m σ H)/\∀i m σ H,W i m σ H ->
   ((Rt lo n).stop i H/\D.nx σ H)\/((Rt lo n).go i H/\∃N:St->Hp->Prop,(∀σ' H',N σ' H'->∃m',m'<m/\W (i+1) m' σ' H')/\∀x H',(Rt lo n).vH i H x H'->g x σ H' fun σ2 H2=>tb { D with nx:=N,ct:=N,bk:=D.nx } σ2 H2):=by
 refine⟨fun i m σ H=>m=n-i/\i<=n/\Pv i σ H,⟨n,by simp,e_ _,h0⟩,?_⟩
 rintro i m σ H ⟨rfl,hi,p⟩
 by_cases hlt:i<n
 ·refine .inr ⟨hlt,Pv (i+1),fun σ' H' p'=>⟨n-(i+1),by omega,rfl,hlt,p'⟩,fun x H' y=>?_⟩
  obtain⟨e,y⟩:=y
  subst e y
  exact hs i σ _ hlt p
 ·have e:i=n:=by omega
  subst e
  exact .inl ⟨bI _,hd σ H p⟩
noncomputable abbrev R2:=V->V->Hp->VK->Prop
structure qJ (X:Cx) (f:Value->Value->Sem Value) (r:R2):Prop where
 mk ::
 go :
 ∀(pins:List (Addr×Obj)) (s:Shared) (σ:St) (H:Hp) (x y:V) (v u:Value) (Q:VK),Inv X pins σ H s->RelV x v->RelV y u->r x y H Q ->
  wpAny (model X.prog X.w) X.A (f v u) (EP X pins σ Q) X.xe s
instance {X:Cx} {f:Value->Value->Sem Value} {r:R2}:CoeFun (qJ X f r) (fun _=>
 ∀(pins:List (Addr×Obj)) (s:Shared) (σ:St) (H:Hp) (x y:V) (v u:Value) (Q:VK),Inv X pins σ H s->RelV x v->RelV y u->r x y H Q ->
  wpAny (model X.prog X.w) X.A (f v u) (EP X pins σ Q) X.xe s):=⟨qJ.go⟩
structure UnR (X:Cx) (f:Value->Sem Value) (r:V->Hp->VK->Prop):Prop where
 mk ::
 go :
 ∀(pins:List (Addr×Obj)) (s:Shared) (σ:St) (H:Hp) (x:V) (v:Value) (Q:VK),Inv X pins σ H s->RelV x v->r x H Q ->
  wpAny (model X.prog X.w) X.A (f v) (EP X pins σ Q) X.xe s
instance {X:Cx} {f:Value->Sem Value} {r:V->Hp->VK->Prop}:CoeFun (UnR X f r) (fun _=>
 ∀(pins:List (Addr×Obj)) (s:Shared) (σ:St) (H:Hp) (x:V) (v:Value) (Q:VK),Inv X pins σ H s->RelV x v->r x H Q ->
  wpAny (model X.prog X.w) X.A (f v) (EP X pins σ Q) X.xe s):=⟨UnR.go⟩
structure cV (X:Cx) (f:Value) (r:List V->Hp->VK->Prop):Prop where
 mk ::
 go :
 ∀(pins:List (Addr×Obj)) (s:Shared) (σ:St) (H:Hp) (xs:List V) (us:List Value) (Q:VK),Inv X pins σ H s->Vals xs us->r xs H Q ->
  wpAny (model X.prog X.w) X.A (call f us) (EP X pins σ Q) X.xe s
instance {X:Cx} {f:Value} {r:List V->Hp->VK->Prop}:CoeFun (cV X f r) (fun _=>
 ∀(pins:List (Addr×Obj)) (s:Shared) (σ:St) (H:Hp) (xs:List V) (us:List Value) (Q:VK),Inv X pins σ H s->Vals xs us->r xs H Q ->
  wpAny (model X.prog X.w) X.A (call f us) (EP X pins σ Q) X.xe s):=⟨cV.go⟩
noncomputable def R1 (r:R2) (ta tb:TE):TE:=fun σ H Q=>ta σ H fun x H1=>tb σ H1 fun y H2=>r x y H2 Q
noncomputable def tUn (r:V->Hp->VK->Prop) (ta:TE):TE:=fun σ H Q=>ta σ H fun x H1=>r x H1 Q
noncomputable def rI (C:Int->Int->Prop) (g:Int->Int->V):R2:=fun x y H Q=>∃i j,x=.int i/\y=.int j/\C i j/\Q (g i j) H
noncomputable def WM (g:Int->Int->V):R2:=fun x y H Q=>∃i j,x=.int i/\y=.int j/\Q (g i j) H
noncomputable def rU (g:Int->V):V->Hp->VK->Prop:=fun x H Q=>∃i,x=.int i/\Q (g i) H
section
variable {X:Cx} {a b c:Expr} {ta tb tc:TE} {pos:Pos}
theorem abb (ha:PE X a ta) (hb:PE X b tb) {pins:List (Addr×Obj)} {s:Shared} {σ:St} {H:Hp} {R:V->V->Hp->Prop} (I:Inv X pins σ H s)
  (h:ta σ H fun x H1=>tb σ H1 fun y H2=>R x y H2) {Q:Value->Shared->Prop} {f:Value->Value->Sem Value}
  (hf:∀v u s2 x y H2,Inv X pins σ H2 s2->RelV x v->RelV y u->R x y H2->wpAny (model X.prog X.w) X.A (f v u) Q X.xe s2) :
  wpAny (model X.prog X.w) X.A (eval a X.env) (fun v s₁=>wpAny (model X.prog X.w) X.A (eval b X.env) (fun u s₂=>wpAny (model X.prog X.w) X.A (f v u) Q X.xe s₂) X.xe s₁) X.xe s:=by
 refine cT (ha pins s σ H _ I h) fun v s1 qx=>?_
 obtain⟨x,H1,I1,r1,q1⟩:=qx
 refine cT (hb pins s1 σ H1 _ I1 q1) fun u s2 qx=>?_
 obtain⟨y,H2,I2,r2,q2⟩:=qx
 exact hf v u s2 x y H2 I2 r1 r2 q2
theorem aV {op:Operator} {r:R2} (ho:qJ X (binaryOp op) r) (ha:PE X a ta) (hb:PE X b tb):PE X (.BinOp a op b pos) (R1 r ta tb):=by
 refine .mk ?_
 intro pins s σ H Q I h
 exact wpAny_BinOp (abb ha hb I h fun v u s2 x y H2 I2 rx ry q=>ho pins s2 σ H2 x y v u Q I2 rx ry q)
theorem Hk {op:UnaryOp} {r:V->Hp->VK->Prop} (ho:UnR X (unaryOp op) r) (ha:PE X a ta):PE X (.UnaryOp op a pos) (tUn r ta):=by
 refine .mk ?_
 intro pins s σ H Q I h
 exact UnaryOp_ (cT (ha pins s σ H _ I h) fun v s1 ⟨x,H1,I1,r1,q1⟩=>ho pins s1 σ H1 x v Q I1 r1 q1)
theorem opI {f:Value->Value->Sem Value} {C:Int->Int->Prop} {g:Int->Int->Int}
  (rule:∀(i j:Int) (t u:Tok) (s:Shared) (Q:Value->Shared->Prop) (E:Value->Shared->Prop),C i j->Q (.int (g i j) s.toks) { s with toks:=s.toks+1 }->wpAny (model X.prog X.w) X.A (f (.int i t) (.int j u)) Q E s) :
  qJ X f (rI C fun i j=>.int (g i j)):=by
 refine .mk ?_
 intro pins s σ H x y v u Q I rx ry h
 obtain⟨i,j,rfl,rfl,hc,q⟩:=h
 obtain⟨t,rfl⟩:=rx
 obtain⟨t',rfl⟩:=ry
 exact rule i j t t' s _ _ hc ⟨.int (g i j),H,I.tok _,⟨_,rfl⟩,q⟩
theorem acX {f:Value->Value->Sem Value} {g:Int->Int->Int}
  (rule:∀(i j:Int) (t u:Tok) (s:Shared) (Q:Value->Shared->Prop) (E:Value->Shared->Prop),Q (.int (g i j) s.toks) { s with toks:=s.toks+1 }->wpAny (model X.prog X.w) X.A (f (.int i t) (.int j u)) Q E s) :
  qJ X f (WM fun i j=>.int (g i j)):=by
 refine .mk ?_
 intro pins s σ H x y v u Q I rx ry h
 obtain⟨i,j,rfl,rfl,q⟩:=h
 obtain⟨t,rfl⟩:=rx
 obtain⟨t',rfl⟩:=ry
 exact rule i j t t' s _ _ ⟨.int (g i j),H,I.tok _,⟨_,rfl⟩,q⟩
theorem aar {f:Value->Value->Sem Value} {g:Int->Int->Bool}
  (rule:∀(i j:Int) (t u:Tok) (s:Shared) (Q:Value->Shared->Prop) (E:Value->Shared->Prop),Q (.bool (g i j)) s->wpAny (model X.prog X.w) X.A (f (.int i t) (.int j u)) Q E s) :
  qJ X f (WM fun i j=>.bl (g i j)):=by
 refine .mk ?_
 intro pins s σ H x y v u Q I rx ry h
 obtain⟨i,j,rfl,rfl,q⟩:=h
 obtain⟨t,rfl⟩:=rx
 obtain⟨t',rfl⟩:=ry
 exact rule i j t t' s _ _ ⟨.bl (g i j),H,I,rfl,q⟩
noncomputable def agu (i j:Int):Prop:=0<j/\j<1073741824
noncomputable def agt (i j:Int):Prop:=0<=j/\j<=1000000/\i.natAbs<2 ^ 64
noncomputable def VD (i j:Int):Prop:=(-(2 ^ 64)<i/\i<2 ^ 64)\/(-(2 ^ 64)<j/\j<2 ^ 64)
theorem VD.ok {i j:Int} (h:VD i j):IntMulOk i j:=by
 rcases h with⟨h1,h2⟩ | ⟨h1,h2⟩
 ·exact .of_left (intBits_le_64 h1 h2)
 ·exact .of_right (intBits_le_64 h1 h2)
theorem bD:qJ X (binaryOp .Add) (WM fun i j=>.int (i+j)):=acX fun _ _ _ _ _ _ _ q=>add_int q
theorem dR:qJ X (binaryOp .Sub) (WM fun i j=>.int (i-j)):=acX fun _ _ _ _ _ _ _ q=>sub_int q
theorem gK:qJ X (binaryOp .Mult) (rI VD fun i j=>.int (i*j)):=opI fun _ _ _ _ _ _ _ hc q=>mul_int q hc.ok
theorem W4:qJ X (binaryOp .FloorDiv) (rI agu fun i j=>.int (i / j)):=opI fun i j _ _ _ _ _ hc q=>by
 have h1:(0:Int)<j:=hc.1
 have h2:j<1073741824:=hc.2
 exact floordiv_int (by omega) (by rw[Int.fdiv_eq_ediv_of_nonneg i (by omega)]; exact q) (.inl (PyProof.noPylong_small (by omega)))
theorem mF:qJ X (binaryOp .Mod) (rI (fun _ j=>0<j) fun i j=>.int (i % j)):=opI fun i j _ _ _ _ _ hc q=>by
 have h1:(0:Int)<j:=hc
 exact mod_int' (by omega) (by rw[Int.fmod_eq_emod_of_nonneg i (by omega)]; exact q)
theorem JM:qJ X (binaryOp .Pow) (rI agt fun i j=>.int (i ^ j.toNat)):=opI fun _ _ _ _ _ _ _ hc q=>pow_int_small hc.1 hc.2.1 hc.2.2 q
theorem unI {f:Value->Sem Value} {g:Int->Int}
  (rule:∀(i:Int) (t:Tok) (s:Shared) (Q:Value->Shared->Prop) (E:Value->Shared->Prop),Q (.int (g i) s.toks) { s with toks:=s.toks+1 }->wpAny (model X.prog X.w) X.A (f (.int i t)) Q E s) :
  UnR X f (rU fun i=>.int (g i)):=by
 refine .mk ?_
 intro pins s σ H x v Q I rx h
 obtain⟨i,rfl,q⟩:=h
 obtain⟨t,rfl⟩:=rx
 exact rule i t s _ _ ⟨.int (g i),H,I.tok _,⟨_,rfl⟩,q⟩
theorem vK:UnR X (unaryOp .USub) (rU fun i=>.int (-i)):=unI fun _ _ _ _ _ q=>neg_int q
end
noncomputable def Pg:V->V->Bool
 | .non,.non=>true | .non,.int _=>true | .int _,.non=>true | .non,.bl _=>true | .bl _,.non=>true | .non,.str _=>true | .str _,.non=>true
 | .int _,.int _=>true | .bl _,.bl _=>true | .str _,.str _=>true | .Rp _,.Rp _=>true
 | .int _,.str _=>true | .str _,.int _=>true | .bl _,.str _=>true | .str _,.bl _=>true
 | _,_=>false
noncomputable def rEq:R2:=fun x y H Q=>Pg x y=true/\Q (.bl (decide (x=y))) H
noncomputable def rNe:R2:=fun x y H Q=>Pg x y=true/\Q (.bl (!decide (x=y))) H
theorem Oa {i j:Int}:decide (V.int i=V.int j)=(i==j):=by
 rw[GQ]
 simp
theorem Vc {i j:Bool}:decide (V.bl i=V.bl j)=(i==j):=by
 rw[GQ]
 simp
theorem N_ {i j:Str}:decide (V.str i=V.str j)=(i==j):=by
 rw[GQ]
 simp
theorem Ob {i j:Array UInt8}:decide (V.Rp i=V.Rp j)=(i.toList==j.toList):=by
 rw[GQ]
 cases i
 cases j
 simp
section
variable {X:Cx} {a b c:Expr} {ta tb tc:TE} {pos:Pos}
theorem bW {pins:List (Addr×Obj)} {σ:St} {H:Hp} {s:Shared} {Q:VK} {k k':Bool} (I:Inv X pins σ H s) (q:Q (.bl k) H) (e:k=k'):EP X pins σ Q (.bool k') s:=by
 subst e
 exact⟨.bl k,H,I,rfl,q⟩
theorem jg:qJ X (compareOp .Eq) rEq:=by
 refine .mk ?_
 intro pins s σ H x y v u Q I rx ry h
 obtain⟨hs,q⟩:=h
 cases x with
 | non=>
  cases rx
  cases y with
  | non=>cases ry; exact PySem.EqNone.eq_none_none (bW I q (by simp))
  | bl j=>cases ry; exact PySem.EqNone.eq_none_bool (bW I q (by simp))
  | int j=>obtain⟨t',rfl⟩:=ry; exact PySem.EqNone.eq_none_int (bW I q (by simp))
  | str j=>obtain⟨t',rfl⟩:=ry; exact PySem.EqNone.eq_none_str (bW I q (by simp))
  | _=>exact absurd (show false=true from hs) lK
 | bl i=>
  cases rx
  cases y with
  | non=>cases ry; exact PySem.EqNone.eq_bool_none (bW I q (by simp))
  | bl j=>cases ry; exact eq_bool (bW I q Vc)
  | str j=>obtain⟨t',rfl⟩:=ry; exact PySem.EqMixed.eq_bool_str (bW I q (by simp))
  | _=>exact absurd (show false=true from hs) lK
 | int i=>
  obtain⟨t,rfl⟩:=rx
  cases y with
  | non=>cases ry; exact PySem.EqNone.eq_int_none (bW I q (by simp))
  | int j=>obtain⟨t',rfl⟩:=ry; exact eq_int (bW I q Oa)
  | str j=>obtain⟨t',rfl⟩:=ry; exact PySem.EqMixed.eq_int_str (bW I q (by simp))
  | _=>exact absurd (show false=true from hs) lK
 | str i=>
  obtain⟨t,rfl⟩:=rx
  cases y with
  | non=>cases ry; exact PySem.EqNone.eq_str_none (bW I q (by simp))
  | bl j=>cases ry; exact PySem.EqMixed.eq_str_bool (bW I q (by simp))
  | int j=>obtain⟨t',rfl⟩:=ry; exact PySem.EqMixed.eq_str_int (bW I q (by simp))
  | str j=>obtain⟨t',rfl⟩:=ry; exact eq_str (bW I q N_)
  | _=>exact absurd (show false=true from hs) lK
 | Rp i=>
  obtain⟨t,rfl⟩:=rx
  cases y with
  | Rp j=>obtain⟨t',rfl⟩:=ry; exact PySem.W.eq_bytes (bW I q Ob)
  | _=>exact absurd (show false=true from hs) lK
 | _=>cases y <;> exact absurd (show false=true from hs) lK
theorem M3:qJ X (compareOp .NotEq) rNe:=by
 refine .mk ?_
 intro pins s σ H x y v u Q I rx ry h
 obtain⟨hs,q⟩:=h
 cases x with
 | non=>
  cases rx
  cases y with
  | non=>cases ry; exact PySem.EqNone.ne_none_none (bW I q (by simp))
  | bl j=>cases ry; exact PySem.EqNone.ne_none_bool (bW I q (by simp))
  | int j=>obtain⟨t',rfl⟩:=ry; exact PySem.EqNone.ne_none_int (bW I q (by simp))
  | str j=>obtain⟨t',rfl⟩:=ry; exact PySem.EqNone.ne_none_str (bW I q (by simp))
  | _=>exact absurd (show false=true from hs) lK
 | bl i=>
  cases rx
  cases y with
  | non=>cases ry; exact PySem.EqNone.ne_bool_none (bW I q (by simp))
  | bl j=>cases ry; exact ne_bool (bW I q (nZ not Vc))
  | str j=>obtain⟨t',rfl⟩:=ry; exact PySem.EqMixed.ne_bool_str (bW I q (by simp))
  | _=>exact absurd (show false=true from hs) lK
 | int i=>
  obtain⟨t,rfl⟩:=rx
  cases y with
  | non=>cases ry; exact PySem.EqNone.ne_int_none (bW I q (by simp))
  | int j=>obtain⟨t',rfl⟩:=ry; exact ne_int (bW I q (nZ not Oa))
  | str j=>obtain⟨t',rfl⟩:=ry; exact PySem.EqMixed.ne_int_str (bW I q (by simp))
  | _=>exact absurd (show false=true from hs) lK
 | str i=>
  obtain⟨t,rfl⟩:=rx
  cases y with
  | non=>cases ry; exact PySem.EqNone.ne_str_none (bW I q (by simp))
  | bl j=>cases ry; exact PySem.EqMixed.ne_str_bool (bW I q (by simp))
  | int j=>obtain⟨t',rfl⟩:=ry; exact PySem.EqMixed.ne_str_int (bW I q (by simp))
  | str j=>obtain⟨t',rfl⟩:=ry; exact ne_str (bW I q (nZ not N_))
  | _=>exact absurd (show false=true from hs) lK
 | Rp i=>
  obtain⟨t,rfl⟩:=rx
  cases y with
  | Rp j=>obtain⟨t',rfl⟩:=ry; exact PySem.W.ne_bytes (bW I q (nZ not Ob))
  | _=>exact absurd (show false=true from hs) lK
 | _=>cases y <;> exact absurd (show false=true from hs) lK
theorem uF:qJ X (compareOp .Lt) (WM fun i j=>.bl (decide (i<j))):=aar fun _ _ _ _ _ _ _ q=>lt_int q
theorem jZ:qJ X (compareOp .Gt) (WM fun i j=>.bl (decide (j<i))):=aar fun _ _ _ _ _ _ _ q=>gt_int q
theorem M4:qJ X (compareOp .GtE) (WM fun i j=>.bl (decide (j<=i))):=aar fun _ _ _ _ _ _ _ q=>ge_int q
theorem Dn:qJ X (compareOp .Is) (fun x y H Q=>y=.non/\Q (.bl (decide (x=.non))) H):=by
 refine .mk ?_
 intro pins s σ H x y v u Q I rx ry h
 obtain⟨rfl,q⟩:=h
 cases ry
 refine is_none_gen (bW I q ?_)
 cases x <;> first
  | (cases rx; rfl)
  | (obtain⟨t,rfl⟩:=rx; rfl)
theorem o_:qJ X (compareOp .IsNot) (fun x y H Q=>y=.non/\Q (.bl (!decide (x=.non))) H):=by
 refine .mk ?_
 intro pins s σ H x y v u Q I rx ry h
 obtain⟨rfl,q⟩:=h
 cases ry
 refine isnot_none_gen (bW I q ?_)
 cases x <;> first
  | (cases rx; rfl)
  | (obtain⟨t,rfl⟩:=rx; rfl)
theorem bh (b:Expr) {op:CmpOp} (h:op≠.In:=by decide) (h2:op≠.NotIn:=by decide):behindInMarks op b=false:=by
 have e1:(op==CmpOp.In)=false:=by cases op <;> first | rfl | exact absurd rfl h
 have e2:(op==CmpOp.NotIn)=false:=by cases op <;> first | rfl | exact absurd rfl h2
 cases b <;> simp[behindInMarks,e1,e2]
theorem fK {op:CmpOp} {r:R2} (ho:qJ X (compareOp op) r) (ha:PE X a ta) (hb:PE X b tb) (hm:behindInMarks op b=false):PE X (.Compare a [op] [b] pos) (R1 r ta tb):=by
 refine .mk ?_
 intro pins s σ H Q I h
 exact wpAny_Compare1 (abb ha hb I h fun v u s2 x y H2 I2 rx ry q=>ho pins s2 σ H2 x y v u Q I2 rx ry q) hm
noncomputable def RW (t:TE):TT:=fun σ H Q=>t σ H fun x H'=>∃k,x=.bl k/\Q k H'
theorem bc {op:CmpOp} {r:R2} (ho:qJ X (compareOp op) r) (ha:PE X a ta) (hb:PE X b tb) (hm:behindInMarks op b=false):PT X (.Compare a [op] [b] pos) (RW (R1 r ta tb)):=by
 refine .mk ?_
 intro pins s σ H Q I h
 refine wpAny_isTrue_Compare1 (cT (ha pins s σ H _ I h) fun v s1 qx=>?_) hm
 obtain⟨x,H1,I1,r1,q1⟩:=qx
 refine cT (hb pins s1 σ H1 _ I1 q1) fun u s2 qx=>?_
 obtain⟨y,H2,I2,r2,q2⟩:=qx
 refine cT (ho pins s2 σ H2 x y v u _ I2 r1 r2 q2) fun c s3 qx=>?_
 obtain⟨z,H3,I3,r3,k,e,q3⟩:=qx
 subst e
 cases r3
 exact Jz ⟨H3,I3,q3⟩
noncomputable def ZG (r r':R2) (ta tb tc:TE):TE:=fun σ H Q=>ta σ H fun x H1=>tb σ H1 fun y H2=>r x y H2 fun z H3=>∃k,z=.bl k /\
 (if k=true then tc σ H3 fun w' H4=>r' y w' H4 Q else Q (.bl false) H3)
noncomputable def age (K:PySem.W.Frag) (x:V) (H:Hp) (k:Bool):Prop:=
 match x with
 | .non=>k=false
 | .bl b=>k=b
 | .int i=>k=(i != 0)
 | .str y=>y.length<=sizeLine/\k=((y.length:Int) != 0)
 | .Rp y=>y.size<=sizeLine/\k=((y.size:Int) != 0)
 | .ref p=>(∃xs,dh K H p xs/\k = !xs.isEmpty)\/(∃xs,cB K H p xs/\k = !xs.isEmpty)\/∃kvs,H p=some (.dK kvs)/\k = !kvs.isEmpty
 | _=>False
theorem xQ:(sizeLine:Nat)<2 ^ 63:=by rw[sizeLine_eq]; decide
theorem vals1 {x:V} {us:List Value} (r:Vals [x] us):∃u,us=[u]/\RelV x u:=by
 cases r with
 | cons r1 r2=>cases r2; exact⟨_,rfl,r1⟩
theorem vals2 {x y:V} {us:List Value} (r:Vals [x,y] us):∃u w',us=[u,w']/\RelV x u/\RelV y w':=by
 cases r with
 | cons r1 r2=>
  cases r2 with
  | cons r3 r4=>cases r4; exact⟨_,_,rfl,r1,r3⟩
theorem HX:cV X (.builtin "abs") (fun xs H Q=>∃i,xs=[.int i]/\Q (.int (if i<0 then -i else i)) H):=by
 refine .mk ?_
 intro pins s σ H xs us Q I r h
 obtain⟨i,rfl,q⟩:=h
 obtain⟨u,rfl,t,rfl⟩:=vals1 r
 exact call_abs_int fun u tk=>⟨.int (if i<0 then -i else i),H,I.tok _,⟨_,rfl⟩,q⟩
theorem fX (hc:X.calm=true):cV X (.builtin "max") (fun xs H Q=>∃i j,xs=[.int i,.int j]/\Q (.int (if j>i then j else i)) H):=by
 refine .mk ?_
 intro pins s σ H xs us Q I r h
 obtain⟨i,j,rfl,q⟩:=h
 obtain⟨u,w',rfl,⟨t,rfl⟩,⟨t',rfl⟩⟩:=vals2 r
 refine max_two_ints (I.ok.hd hc) fun h' tk k=>⟨_,H,I.kept k,?_,q⟩
 by_cases hj:j>i
 ·rw[aP hj,aP hj]; exact⟨_,rfl⟩
 ·rw[bB hj,bB hj]; exact⟨_,rfl⟩
theorem dz (hc:X.calm=true):cV X (.builtin "min") (fun xs H Q=>∃i j,xs=[.int i,.int j]/\Q (.int (if j<i then j else i)) H):=by
 refine .mk ?_
 intro pins s σ H xs us Q I r h
 obtain⟨i,j,rfl,q⟩:=h
 obtain⟨u,w',rfl,⟨t,rfl⟩,⟨t',rfl⟩⟩:=vals2 r
 refine min_two_ints (I.ok.hd hc) fun h' tk k=>⟨_,H,I.kept k,?_,q⟩
 by_cases hj:j<i
 ·rw[aP hj,aP hj]; exact⟨_,rfl⟩
 ·rw[bB hj,bB hj]; exact⟨_,rfl⟩
end
structure abh (h:Heap) (x dx C:Addr) (mA:Str->Option Value):Prop where
 obj:h.get? x=some (PySem.W.instObj C dx)
 ns:h.Ns1 dx mA
 ne:dx≠x
theorem Qy {h:Heap} {dx:Addr} {mA:Str->Option Value} (n:h.Ns1 dx mA):∃od,h.get? dx=some od/\∀name,PySem.W.lookIn name od=some (mA name):=by
 obtain⟨o,es,ep,ho,hd,hk,_,hm⟩:=n
 refine⟨o,ho,fun name=>?_⟩
 have e:=hm name
 unfold nsFind findBy at e
 rw[<- Array.find?_toList] at e
 unfold PySem.W.lookIn
 rw[hd]
 dsimp only
 split
 ·rename_i y q
  rw[q] at e
  exact nZ some e
 ·rename_i q
  rw[q] at e
  have a:es.toList.any (·.refKey)=false:=by
   rw[List.any_eq_false]
   intro y hy
   obtain⟨z,t,hkey⟩:=hk y (Array.mem_toList_iff.mp hy)
   simp[DictEntry.refKey,hkey]
  have a':¬es.toList.any (·.refKey)=true:=by rw[a]; exact lK
  rw[bB a']
  exact nZ some e
theorem abh.look {h:Heap} {x dx C:Addr} {mA:Str->Option Value} (I:abh h x dx C mA):∃od,PySem.W.InstAt h x (PySem.W.instObj C dx) C (some od)/\∀name,PySem.W.lookIn name od=some (mA name):=
 let ⟨od,ho,hl⟩:=Qy I.ns
 ⟨od,⟨I.obj,rfl,rfl,ho⟩,hl⟩
section
variable {prog:Program} {w:World} {A:Around} {E:Value->Shared->Prop} {s:Shared} {K:PySem.W.Frag} {x dx C f:Addr} {mA:Str->Option Value} {name:Str} {v:Value}
end
section
variable {P:Program} {w:World} {H H':Hp} {h h':Heap} {a C dx:Addr} {fs fs':List (Str×V)}
theorem Nz (hok:lZ P w H h) (e:H a=some (.ins C dx fs)):∃mA,abh h a dx C mA/\(∀f,Ra (fs.lookup f) (mA f))/\PySem.Within mA (fs.map (·.1))/\fs.length<=1000/\H dx=some (.own a):=by
 obtain⟨d,z,ne,ob,mA,n,r,q⟩:=(show cz P w H h a (.ins C dx fs) from hok a _ e)
 exact⟨mA,⟨ob,n,ne⟩,r,q,z,d⟩
end
structure Cls (K:PySem.W.Frag) (C:Addr):Prop where
 pg:PySem.W.plainGet K C Str.empty=true
 hd:PySem.W.hasDictIn K C=true
 po:PySem.W.plainOver K C=true
 sa:PySem.W.findIn K (.ref C) "__setattr__" = some (some (.builtin "object.__setattr__"))
theorem Cls.get {K:PySem.W.Frag} {C:Addr} (c:Cls K C) (f:Str):PySem.W.plainGet K C f=true:=c.pg
structure Con (K:PySem.W.Frag) (C:Addr) (f:Str) (v:V) (u:Value):Prop where
 at_:PySem.W.findIn K (.ref C) f=some (some u)
 rel:RelV v u
 get:PySem.W.specialIn K u "__get__" = some none
 cp:PySem.W.copiedNames.contains f=false
structure Meth (K:PySem.W.Frag) (C:Addr) (m:Str) (f:Addr):Prop where
 at_:PySem.W.findIn K (.ref C) m=some (some (.ref f))
 fn:PySem.W.isFn K (.ref f)=true
 kp:PySem.W.keepIn K (.ref f)=true
section
variable {X:Cx} {pins:List (Addr×Obj)} {σ:St} {H:Hp} {s:Shared} {a C dx:Addr} {fs:List (Str×V)} {f:Str} {v:V} {A:Around} {E:Value->Shared->Prop}
end
section
variable {X:Cx} {o e value:Expr} {f:Str} {pos pos' tpos:Pos} {ta tv:TE}
end
section
variable {X:Cx} {pins:List (Addr×Obj)} {σ:St} {H:Hp} {s:Shared} {A:Around} {E:Value->Shared->Prop} {Q:Value->Shared->Prop} {c:Value} {b:Bool}
inductive sy (K:PySem.W.Frag) (H:Hp):V->Value->Prop where
 | non:sy K H .non (.type "NoneType")
 | bl (x:Bool):sy K H (.bl x) (.type "bool")
 | int (i:Int):sy K H (.int i) (.type "int")
 | str (x:Str):sy K H (.str x) (.type "str")
 | flt (x:UInt64):sy K H (.flt x) (.type "float")
 | lst {a:Addr} {xs:List V} (e:H a=some (.lst xs)):sy K H (.ref a) (.type "list")
 | Fl {a:Addr} {o:Obj} {xs:List V} (e:H a=some (.Fl o (.lst xs))):sy K H (.ref a) (.type "list")
 | tup {a:Addr} {xs:List V} (e:H a=some (.tup xs)):sy K H (.ref a) (.type "tuple")
 | dK {a:Addr} {kvs:List (Key×V)} (e:H a=some (.dK kvs)):sy K H (.ref a) (.type "dict")
 | dT {a:Addr} {kvs:List (List Key×V)} (e:H a=some (.dT kvs)):sy K H (.ref a) (.type "dict")
 | ins {a C dx:Addr} {fs:List (Str×V)} (e:H a=some (.ins C dx fs)) (cl:Cls K C) (ha:PySem.W.findIn K (.ref C) "__class__" = some (some (.builtin "object.__class__")))
   (hn:PySem.W.specialIn K (.builtin "object.__class__") "__get__" = some (some (.builtin "getset_descriptor.__get__"))) (htk:PySem.W.takesIn K (.builtin "object.__class__")=some true)
   (hm:PySem.W.mroIn K C (.type "object")=some true):sy K H (.ref a) (.ref C)
theorem QB {x:V} {u t:Value} (I:Inv X pins σ H s) (rx:RelV x u) (ty:sy X.K H x t) (e:PySem.W.kitOne X.K t c=some b) (h:∀tk,Q (.bool b) { s with toks:=tk }) :
  wpAny (model X.prog X.w) A (call (.builtin "isinstance") [u,c]) Q E s:=by
 cases ty with
 | non=>cases(show u=Value.none from rx); exact PySem.W.kia_one PySem.W.kitx_none I.oE True.intro e (fun z=>nomatch z) h
 | bl y=>cases(show u=Value.bool y from rx); exact PySem.W.kia_one PySem.W.kitx_bool I.oE True.intro e (fun z=>nomatch z) h
 | int i=>obtain⟨t,q⟩:=(show ∃t,u=Value.int i t from rx); cases q; exact PySem.W.kia_one PySem.W.kitx_int I.oE True.intro e (fun z=>nomatch z) h
 | str y=>obtain⟨t,q⟩:=(show ∃t,u=Value.str y t from rx); cases q; exact PySem.W.kia_one PySem.W.kitx_str I.oE True.intro e (fun z=>nomatch z) h
 | flt y=>obtain⟨t,q⟩:=(show ∃t,u=Value.float y t from rx); cases q; exact PySem.W.kia_one PySem.W.kitx_float I.oE True.intro e (fun z=>nomatch z) h
 | @lst a xs ea=>
  cases(show u=Value.ref a from rx)
  obtain⟨_,_,n,_,h1⟩:=(show cz X.prog X.w H s.heap a (.lst xs) from I.hok a _ ea)
  exact PySem.W.kia_one PySem.W.kitx_list I.oE ⟨_,h1,rfl⟩ e (fun z=>nomatch z) h
 | @Fl a ob xs ea=>
  cases(show u=Value.ref a from rx)
  obtain⟨_,_,_,n,_,h1⟩:=(show cz X.prog X.w H s.heap a (.Fl ob (.lst xs)) from I.hok a _ ea)
  exact PySem.W.kia_one PySem.W.kitx_list I.oE ⟨_,h1,rfl⟩ e (fun z=>nomatch z) h
 | @tup a xs ea=>
  cases(show u=Value.ref a from rx)
  obtain⟨_,_,_,p⟩:=(show cz X.prog X.w H s.heap a (.tup xs) from I.hok a _ ea)
  obtain⟨o,h1,h2,_⟩:=p
  exact PySem.W.kia_one PySem.W.kitx_tuple I.oE ⟨o,h1,h2⟩ e (fun z=>nomatch z) h
 | @dK a kvs ea=>
  cases(show u=Value.ref a from rx)
  obtain⟨_,_,vs,_,p⟩:=(show cz X.prog X.w H s.heap a (.dK kvs) from I.hok a _ ea)
  obtain⟨o,es,ep,h1,h2,_⟩:=p
  exact PySem.W.kia_one PySem.W.kitx_dict I.oE ⟨o,h1,h2.1⟩ e (fun z=>nomatch z) h
 | @dT a kvs ea=>
  cases(show u=Value.ref a from rx)
  obtain⟨_,_,xs,_,o,es,ep,h1,h2,_⟩:=(show cz X.prog X.w H s.heap a (.dT kvs) from I.hok a _ ea)
  exact PySem.W.kia_one PySem.W.kitx_dict I.oE ⟨o,h1,h2.1⟩ e (fun z=>nomatch z) h
 | @ins a C dx fs ea cl ha hn htk hm=>
  cases(show u=Value.ref a from rx)
  obtain⟨mA,O,_⟩:=Nz I.hok ea
  obtain⟨od,J,_⟩:=O.look
  exact PySem.W.kia_one (PySem.W.kitx_own (cl.get _) cl.hd ha hn htk hm) I.oE J e (fun z=>nomatch z) h
end
structure jb (k:Nat) (A:Around):Prop where
 hd:A.handled=none
 dp:A.depth+3*k+5<recursionLimit
 un:A.units+16*k+200<cLine
 gd:A.guards=some []
theorem jb.mono {j k:Nat} {A:Around} (r:jb k A) (h:j<=k):jb j A:=⟨r.hd,by have:=r.dp; omega,by have:=r.un; omega,r.gd⟩
theorem jb.deeper {k:Nat} {A:Around} (r:jb (k+1) A) (env:Env):jb k (A.deeper env):=
 ⟨r.hd,by have:=r.dp; show A.depth+1+3*k+5<_; omega,by have:=r.un; show A.units+3+16*k+200<_; omega,by first | exact r.gd | (simpa[Around.deeper,Around.under,Code.guards,Code.isGuard,guardIds,pushGuards] using r.gd)⟩
theorem jb.depth {k:Nat} {A:Around} (r:jb k A):A.depth<recursionLimit:=by have:=r.dp; omega
theorem jb.units {k:Nat} {A:Around} (r:jb k A):A.units+64<cLine:=by have:=r.un; omega
noncomputable def Wd:TA:=fun _ H Q=>Q [] H
noncomputable def Lg (ta:TE) (tr:TA):TA:=fun σ H Q=>ta σ H fun x H1=>tr σ H1 fun xs H2=>Q (x::xs) H2
section
variable {X:Cx} {e:Expr} {es:List Expr} {te:TE} {t:TA} {pos:Pos}
theorem aj:PA X [] Wd:=.mk <| fun _ _ _ _ H Q I h=>Calls.spliced_nil ⟨[],H,I,.nil,h⟩
theorem W3 (ha:PE X e te) (hr:PA X es t) (hs:starEach (e::es) X.env=(false,eval e X.env)::starEach es X.env:=by rfl):PA X (e::es) (Lg te t):=by
 refine .mk ?_
 intro pos pins s σ H Q I h
 rw[hs]
 show wpAny _ _ (spliced ((false,eval e X.env)::backTo pos (starEach es X.env))) _ _ s
 refine Calls.spliced_cons (cT (ha pins s σ H _ I h) fun u s1 qx=>?_)
 obtain⟨x,H1,I1,r1,q1⟩:=qx
 exact cT (hr pos pins s1 σ H1 _ I1 q1) fun us s2 ⟨xs,H2,I2,r2,q2⟩=>⟨x::xs,H2,I2,.cons r1 r2,q2⟩
noncomputable def aeu (t:TA):TE:=fun σ H Q=>t σ H fun xs H1=>xs.length<=sizeLine/\∀p,H1 p=none->Q (.ref p) (upd H1 p (.tup xs))
noncomputable def aco (t:TA):TE:=fun σ H Q=>t σ H fun xs H1=>xs.length<=sizeLine/\∀p,H1 p=none->Q (.ref p) (upd H1 p (.lst xs))
theorem aal (h:PA X es t):PE X (.List es pos) (aco t):=by
 refine .mk ?_
 intro pins s σ H Q I hq
 refine wpAny_List_spliced (cT (h pos pins s σ H _ I hq) fun us s1 qx=>?_)
 obtain ⟨xs,H1,I1,r,z,q⟩:=qx
 refine ⟨by rw[<- r.length]; exact z,?_⟩
 have hf:H1 s1.heap.objs.size=none:=I1.hok.fresh (bI _)
 refine⟨.ref s1.heap.objs.size,upd H1 s1.heap.objs.size (.lst xs),I1.laid (t':=s1.toks) (fun b u e=>dY _ e) (bI _) ?_,rfl,q _ hf⟩
 exact⟨z,us,0,r,dJ _ rfl⟩
end
noncomputable abbrev Sp:=List V->Hp->VK->XK->Prop
noncomputable abbrev Ox:=List Env->Hp->Shared->XK->Value->Shared->Prop
structure Yh (P:Program) (w:World) (K:PySem.W.Frag) (mg:Str->Option Value) (base:Heap) (A:Around) (outer:List Env) (s:Shared) (H:Hp):Prop where
 frames:A.frames=some outer
 mod:Mod K mg base
 bs:∀b o,base.get? b=some o->s.heap.get? b=some o/\H b=none
 Rq:base.objs.size<=s.heap.objs.size
 uU:s.heap.FunFrames base outer
 frf:∀b∈frs outer,H b=none
 hok:lZ P w H s.heap
 bare:AllBare s.gens
noncomputable def CE (outer:List Env) (P:Program) (w:World) (H:Hp) (s:Shared) (Q:VK) (u:Value) (s':Shared):Prop:=
 ∃v H',s'.os=s.os/\AllBare s'.gens/\Un (frs outer) [] H H' s.heap s'.heap/\lZ P w H' s'.heap/\RelV v u/\Q v H'
noncomputable def CR (CX:Ox) (outer:List Env) (P:Program) (w:World) (H:Hp) (s:Shared) (Q:VK) (E:XK) (r:Result) (s':Shared):Prop:=
 match r with
 | .ok (.ret u)=>CE outer P w H s Q u s'
 | .ok _=>False
 | .error e=>CX outer H s E e s'
structure bZ (P:Program) (w:World) (K:PySem.W.Frag) (mg:Str->Option Value) (base:Heap) (CX:Ox) (k:Nat) (f:Addr) (fd:FuncData) (ps:List Str) (sp:Sp):Prop where
 len:∀vs H Q E,sp vs H Q E->vs.length=ps.length
 run:∀(A:Around) (outer:List Env) (s:Shared) (H:Hp) (args:Args) (us:List Value) (vs:List V) (Q:VK) (E:XK),jb k A->Yh P w K mg base A outer s H->BindsTo s fd args (ps.zip us)->Vals vs us->sp vs H Q E ->
  codeAny (model P w) A (.call (.ref f) args) (CR CX outer P w H s Q E) s
theorem bZ.mono {P:Program} {w:World} {K:PySem.W.Frag} {mg:Str->Option Value} {base:Heap} {CX:Ox} {j k:Nat} {f:Addr} {fd:FuncData} {ps:List Str} {sp:Sp} (F:bZ P w K mg base CX j f fd ps sp) (h:j<=k) :
  bZ P w K mg base CX k f fd ps sp:=⟨F.len,fun A outer s H args us vs Q E hr=>F.run A outer s H args us vs Q E (hr.mono h)⟩
section
variable {X:Cx} {pins:List (Addr×Obj)} {σ:St} {H:Hp} {s s':Shared}
theorem Inv.env0 (I:Inv X pins σ H s):Yh X.prog X.w X.K X.mg X.base X.A X.stack s H:=
 ⟨I.ok.frames,I.ok.mod,I.bs,n_ I.ok.Rq I.sz,I.stack,I.u_,I.hok,I.bare⟩
theorem Inv.after {Q:VK} {u:Value} (I:Inv X pins σ H s) (h:CE X.stack X.prog X.w H s Q u s'):EP X pins σ Q u s':=by
 obtain⟨v,H',os,bare,un,hok,r,q⟩:=h
 obtain⟨hh,g,d,t,os'⟩:=s'
 obtain rfl:os'=s.os:=os
 exact⟨v,H',I.call (h':=hh) (g':=g) (d':=d) (t':=t) (ch:=[]) un hok bare (fun b z=>absurd z (by simp)),r,q⟩
end
noncomputable def qL (sp:Sp) (Ro:List V) (E:XK) (t:TA):TE:=fun σ H Q=>t σ H fun vs H1=>sp (vs++Ro) H1 Q E
noncomputable def Binds (K:PySem.W.Frag) (fd:FuncData) (ps:List Str) (ds:List Value):Prop:=
 ∀(s:Shared) (us:List Value),K.In s.heap->(us++ds).length=ps.length->BindsTo s fd ⟨us,[]⟩ (ps.zip (us++ds))
theorem Binds.all {K:PySem.W.Frag} {fd:FuncData} {ps:List Str} (h:∀us:List Value,us.length=ps.length->bindArgs fd ⟨us,[]⟩=pure (ps.zip us)):Binds K fd ps []:=fun s us _ hl=>by
 rw[lJ] at hl ⊢
 exact .of_eq (h us hl)
noncomputable def Passes (CX:Ox) (X:Cx) (E:XK):Prop:=∀(pins:List (Addr×Obj)) (σ:St) (H:Hp) (s:Shared) (e:Value) (s':Shared),Inv X pins σ H s->CX X.stack H s E e s'->X.xe e s'
section
variable {X:Cx} {CX:Ox} {k:Nat} {f C:Addr} {fd:FuncData} {ps:List Str} {sp:Sp} {Ro:List V} {ds:List Value} {E:XK} {x m:Str} {p pos apos:Pos} {e o:Expr} {es:List Expr} {ta:TE} {t:TA}
theorem Z6 {pins:List (Addr×Obj)} {σ:St} {H:Hp} {s:Shared} {Q:VK} {us:List Value} {vs:List V} (F:bZ X.prog X.w X.K X.mg X.base CX k f fd ps sp) (hr:jb k X.A) (hb:Binds X.K fd ps ds) (hd:Vals Ro ds) (hx:Passes CX X E)
  (I:Inv X pins σ H s) (r:Vals vs us) (h:sp (vs++Ro) H Q E):wpAny (model X.prog X.w) X.A (call (.ref f) us) (EP X pins σ Q) X.xe s:=by
 have r2:Vals (vs++Ro) (us++ds):=r.append hd
 have hl:(us++ds).length=ps.length:=by rw[<- r2.length]; exact F.len _ _ _ _ h
 refine wpAny_call (codeAny_mono (F.run X.A X.stack s H ⟨us,[]⟩ (us++ds) (vs++Ro) Q E hr I.env0 (hb s us I.oE hl) r2 h) fun r s' hq=>?_)
 cases r with
 | error e=>exact hx pins σ H s e s' I hq
 | ok fl=>
  cases fl with
  | ret u=>exact I.after hq
  | next=>exact False.elim hq
  | brk=>exact False.elim hq
  | cont=>exact False.elim hq
theorem MP (F:bZ X.prog X.w X.K X.mg X.base CX k f fd ps sp) (hr:jb k X.A) (hg:Gl X x) (hm:X.mg x=some (.ref f)) (hk:PySem.W.keepIn X.K (.ref f)=true) (hb:Binds X.K fd ps ds) (hd:Vals Ro ds) (hx:Passes CX X E)
  (ha:PA X (e::es) t) (hdb:(x==("__debug__" : Str))=false:=by decide) (he:starEach (e::es) X.env=(false,eval e X.env)::starEach es X.env:=by rfl) (hpl:(backTo pos (starEach es X.env)).any (·.1)=false:=by rfl) :
  PE X (.Call (.Name x p) (e::es) [] pos) (qL sp Ro E t):=by
 refine .mk ?_
 intro pins s σ H Q I h
 refine rn (rK I hg hm ?_ hdb)
 refine PySem.W.callWith_K (h₀:=X.base) I.ok.mod.Xz hk (cT (ha pos pins s σ H _ I h) fun us s1 qx=>?_) he hpl
 obtain ⟨vs,H1,I1,r,q⟩:=qx
 refine ⟨I1.oE,?_⟩
 exact Z6 F hr hb hd hx I1 r q
structure Mk (K:PySem.W.Frag) (C f:Addr):Prop where
 makes:PySem.W.makesIn K C=true
 init:PySem.W.findIn K (.ref C) "__init__" = some (some (.ref f))
 fn:PySem.W.isFn K (.ref f)=true
 kp:PySem.W.keepIn K (.ref C)=true
end
noncomputable def PK (X:Cx) (kws:List Keyword) (t:TA):Prop:=
 ∀(pos:Pos) (pins:List (Addr×Obj)) (s:Shared) (σ:St) (H:Hp) (Q:List V->Hp->Prop),Inv X pins σ H s->t σ H Q->wpAny (model X.prog X.w) X.A (evalAll ((backToKw pos (keywordEach kws X.env)).map (·.2))) (AP X pins σ Q) X.xe s
section
variable {X:Cx} {CX:Ox} {k:Nat} {f C:Addr} {fd:FuncData} {ps ks:List Str} {sp:Sp} {E:XK} {x m:Str} {p pos apos Xw:Pos} {e o:Expr} {es:List Expr} {kws:List Keyword} {te ta:TE} {t tk:TA} {nm:Option Str}
theorem aag:PK X [] Wd:=fun _ _ _ _ H Q I h=>wpAny_evalAll_nil ⟨[],H,I,.nil,h⟩
theorem WT (ha:PE X e te) (hr:PK X kws t):PK X (⟨nm,e,Xw⟩::kws) (Lg te t):=by
 intro pos pins s σ H Q I h
 show wpAny _ _ (evalAll ((do let v <- eval e X.env; standAt pos; pure v)::(backToKw pos (keywordEach kws X.env)).map (·.2))) _ _ s
 refine wpAny_evalAll_cons (aW (cT (ha pins s σ H _ I h) fun u s1 ⟨x,H1,I1,r1,q1⟩=>aW (Dh (bV ?_))))
 exact cT (hr pos pins s1 σ H1 _ I1 q1) fun us s2 ⟨xs,H2,I2,r2,q2⟩=>⟨x::xs,H2,I2,.cons r1 r2,q2⟩
structure agj (K:PySem.W.Frag) (fd:FuncData) (ps ks:List Str) (g:List Value->List Value->List Value) (gV:List V->List V->List V):Prop where
 to:∀(s:Shared) (us ws:List Value),K.In s.heap->(g us ws).length=ps.length->BindsTo s fd ⟨us,ks.zip ws⟩ (ps.zip (g us ws))
 rel:∀{vs:List V} {us:List Value} {zs:List V} {ws:List Value},Vals vs us->Vals zs ws->Vals (gV vs zs) (g us ws)
variable {g:List Value->List Value->List Value} {gV:List V->List V->List V}
end
structure bf (N P:List Str) (sc:Scope):Prop where
 kind:sc.kind=.function
 co:sc.isCoroutine=false
 gen:sc.isGenerator=false
 nd:N.Nodup
 pre:N.take P.length=P
 par:∀x∈P,sc.names.lookup x=some .local\/sc.names.lookup x=some .cell
 aay:∀y∈sc.names,y.2≠.free
theorem BV {kindOf:Str->Option NameKind} {x:Str}:∀{binds:List (Str×Value)} {m:Str->Option Value},(∀v,(x,v)∉binds)->bindL kindOf binds m x=m x
 | [],_,_=>rfl
 | (n,v)::r,m,h=>by
  unfold bindL
  rw[BV fun w hw=>h w (jx _ hw)]
  split
  ·have:x≠n:=by rintro rfl; exact h v jT
   simp[this]
  ·rfl
theorem BX {kindOf:Str->Option NameKind} {x:Str}:∀{binds:List (Str×Value)} {m:Str->Option Value},(∀v,(x,v)∉binds)->bindC kindOf binds m x=m x
 | [],_,_=>rfl
 | (n,v)::r,m,h=>by
  unfold bindC
  rw[BX fun w hw=>h w (jx _ hw)]
  split
  ·rfl
  ·have:x≠n:=by rintro rfl; exact h v jT
   simp[this]
theorem BW {kindOf:Str->Option NameKind} {x:Str} {v:Value}:∀{P:List Str} {vs:List Value} {i:Nat} {m:Str->Option Value},P.Nodup->P[i]?=some x->vs[i]?=some v->kindOf x=some .local ->
  bindL kindOf (P.zip vs) m x=some v
 | [],_,_,_,_,h,_,_=>by simp at h
 | _::_,[],_,_,_,_,h,_=>by simp at h
 | p::P,w::vs,0,m,nd,h1,h2,hk=>by
  simp at h1 h2; subst h1; subst h2
  show bindL kindOf ((p,w)::P.zip vs) m p=_
  unfold bindL
  rw[BV fun v hv=>(GX.mp nd).1 (List.of_mem_zip hv).1,aP hk]
  simp
 | p::P,w::vs,i+1,m,nd,h1,h2,hk=>by
  show bindL kindOf ((p,w)::P.zip vs) m x=_
  unfold bindL
  exact BW (i:=i) (GX.mp nd).2 (by simpa using h1) (by simpa using h2) hk
theorem BZ {kindOf:Str->Option NameKind} {x:Str} {v:Value}:∀{P:List Str} {vs:List Value} {i:Nat} {m:Str->Option Value},P.Nodup->P[i]?=some x->vs[i]?=some v->kindOf x≠some .local ->
  bindC kindOf (P.zip vs) m x=some v
 | [],_,_,_,_,h,_,_=>by simp at h
 | _::_,[],_,_,_,_,h,_=>by simp at h
 | p::P,w::vs,0,m,nd,h1,h2,hk=>by
  simp at h1 h2; subst h1; subst h2
  show bindC kindOf ((p,w)::P.zip vs) m p=_
  unfold bindC
  rw[BX fun v hv=>(GX.mp nd).1 (List.of_mem_zip hv).1,bB hk]
  simp
 | p::P,w::vs,i+1,m,nd,h1,h2,hk=>by
  show bindC kindOf ((p,w)::P.zip vs) m x=_
  unfold bindC
  exact BZ (i:=i) (GX.mp nd).2 (by simpa using h1) (by simpa using h2) hk
noncomputable def start (N:List Str) (vs:List V):St:=vs.map some++List.replicate (N.length-vs.length) none
noncomputable def ig (CX:Ox) (P:Program) (w:World) (K:PySem.W.Frag) (mg:Str->Option Value) (base:Heap) (N:List Str) (qual:Str) (scope:Scope) (f:Addr) (cd:Value) (A:Around) (outer:List Env) (s:Shared) (H:Hp) (E:XK):Cx where
 prog:=P
 w:=w
 K:=K
 mg:=mg
 base:=base
 A:=A.deeper (envOfC qual scope s.heap.objs.size f cd)
 N:=N
 s₀:=s
 H₀:=H
 env:=envOfC qual scope s.heap.objs.size f cd
 outer:=outer
 stack:=envOfC qual scope s.heap.objs.size f cd::outer
 ex:=[]
 calm:=true
 fn:=fun _=>true
 pn:=[]
 xe:=fun e s'=>wpAny (model P w) (A.deeper (envOfC qual scope s.heap.objs.size f cd)) (leaving (envOfC qual scope s.heap.objs.size f cd) e) (fun _ s''=>CX outer H s E e s'') (fun e' s''=>CX outer H s E e' s'') s'
theorem HW {sc:Scope} {n:Nat} {x:Str} (h:sc.names.lookup x=some .cell):∃c,(cellsFrom n sc.names []).lookup x=some c:=by
 have q:=PySem.W.cellsFrom_some sc.names n [] (.inl h)
 exact zf.mp q
theorem Bq {CX:Ox} {P:Program} {w:World} {K:PySem.W.Frag} {mg:Str->Option Value} {base:Heap} {N ps:List Str} {qual:Str} {scope:Scope} {f:Addr} {cd:Value} {A:Around} {outer:List Env} {s s1:Shared} {H:Hp} {E:XK} {us:List Value} {vs:List V}
  (S:bf N ps scope) (hd:A.handled=none) (e0:Yh P w K mg base A outer s H) (hl:vs.length=ps.length) (r:Vals vs us)
  (x:InCallC s s.heap.objs.size (bindL (envOfC qual scope s.heap.objs.size f cd).kindOf (ps.zip us) fun _=>none) (cellsFrom (s.heap.objs.size+1) scope.names []) (bindC (envOfC qual scope s.heap.objs.size f cd).kindOf (ps.zip us) fun _=>none) s1) :
  Inv (ig CX P w K mg base N qual scope f cd A outer s H E) [] (start N vs) H s1:=by
 have hpl:ps.length<=N.length:=by have:=nZ List.length S.pre; rw[jG] at this; omega
 obtain⟨h1,tk,rfl,hk⟩:=x.done
 have noA:∀b:Addr,b∉(ig CX P w K mg base N qual scope f cd A outer s H E).ex:=fun b z=>absurd (show b∈([]:List Addr) from z) (by simp)
 refine⟨⟨e0.mod,S.kind,rfl,rfl,bI _,fun y z c h1 h2=>?_,fun y hy=>?_,fun y c _ h=>?_,fun _=>hd,Around.frames_deeper e0.frames,.inr ⟨rfl,rfl⟩,fun b z=>absurd z (noA b),e0.bs,e0.Rq,fun b _ _=>noA b,fun b z=>absurd z (noA b),e0.uU,e0.frf⟩,
  rfl,e0.bare,Un.kept hk,⟨_,x.toInCall.ns,fun i y v h1 h2 h3=>?_⟩,fun y c h=>⟨_,x.cell y c h⟩,e0.hok.fresh (bI _),fun y c h=>?_,fun p hp=>absurd (show p∈([]:List (Addr×Obj)) from hp) (by simp),e0.hok.kept hk,?_⟩
 ·exact name_of_addr x.apart (PySem.mem_of_lookup h1) (PySem.mem_of_lookup h2)
 ·have hy:scope.names.lookup y=some .cell\/scope.names.lookup y=some .free:=hy
  rcases hy with hy | hy
  ·exact HW hy
  ·exact absurd rfl (S.aay _ (PySem.mem_of_lookup hy))
 ·exact jt (x.above y c (PySem.mem_of_lookup h))
 ·have hi:i<vs.length:=by
   unfold start at h2
   by_cases hi:i<vs.length
   ·exact hi
   ·rw[zj (by simpa using hi)] at h2
    rw[Ti] at h2
    split at h2 <;> cases h2
  have ha:vs[i]?=some v:=by
   unfold start at h2
   rw[Gy (by simpa using hi),fQ] at h2
   cases e:vs[i]? with
   | none=>rw[e] at h2; cases h2
   | some a=>rw[e] at h2; cases h2; rfl
  obtain⟨u,hu,rv⟩:=r.get ha
  have hp:ps[i]?=some y:=by
   rw[<- S.pre,List.getElem?_take_of_lt (by omega)]; exact h1
  have ndP:ps.Nodup:=by rw[<- S.pre]; exact S.nd.sublist (List.take_sublist _ _)
  refine⟨u,rv,?_⟩
  rcases S.par y (je hp) with k | k
  ·exact .inl ⟨k,BW ndP hp hu k⟩
  ·obtain⟨c,e⟩:=HW (n:=s.heap.objs.size+1) k
   refine .inr ⟨.inl k,c,e,?_⟩
   have q:=x.cell y c e
   rw[BZ ndP hp hu (by show scope.names.lookup y≠_; rw[k]; decide)] at q
   exact q
 ·exact e0.hok.fresh (jt (x.above y c (PySem.mem_of_lookup h)))
 ·unfold start
  show _=N.length
  rw[gH,bM,Gv]
  omega
theorem Y_ {CX:Ox} {P:Program} {w:World} {K:PySem.W.Frag} {mg:Str->Option Value} {base:Heap} {k:Nat} {f:Addr} {name qual:Str} {params:Arguments} {body:List Stmt} {scope:Scope} {dV kV doc pm cdv ct oc:Value} {an od:Option Addr}
  {osl:Array (Option Value)} {N ps:List Str} {sp:Sp} (lk:K.lookup f=some ⟨oc,od,.func (PySem.W.fnOf name qual params body scope dV kV doc pm an cdv ct),osl⟩) (hcd:PySem.W.codeIn K cdv qual=true) (S:bf N ps scope)
  (len:∀vs H Q E,sp vs H Q E->vs.length=ps.length)
  (hbody:∀(A:Around) (outer:List Env) (s:Shared) (H:Hp) (vs:List V) (Q:VK) (E:XK),jb k (A.deeper (envOfC qual scope s.heap.objs.size f cdv))->sp vs H Q E ->
   ∃t,zV (ig CX P w K mg base N qual scope f cdv A outer s H E) body t/\t { nx:=fun _ H'=>Q .non H',rt:=Q } (start N vs) H) :
  bZ P w K mg base CX (k+1) f (PySem.W.fnOf name qual params body scope dV kV doc pm an cdv ct) ps sp:=by
 refine⟨len,fun A outer s H args us vs Q E hr e0 hb r hsp=>?_⟩
 have hl:=len _ _ _ _ hsp
 have KX:K.In s.heap:=e0.mod.Xz.keeps fun b o e=>(e0.bs b o e).1
 have lim:s.heap.NoLimit:=e0.mod.nolimit.keeps fun b o e=>(e0.bs b o e).1
 have hkind:∀y∈ps.zip us,scope.names.lookup y.1=some .local\/(scope.names.lookup y.1=some .cell/\((cellsFrom (s.heap.objs.size+1) scope.names []).lookup y.1).isSome=true):=fun⟨n,v⟩ hy=>by
  rcases S.par n (List.of_mem_zip hy).1 with q | q
  ·exact .inl q
  ·exact .inr ⟨q,PySem.W.cellsFrom_some _ _ _ (.inl q)⟩
 refine codeAny_call_function hr.depth (KX _ _ lk) rfl S.co S.gen rfl (PySem.W.codeRec_of KX hcd) (hb _ _ _ _ ?_)
 refine wpAny_newFunctionEnv_cells S.kind hkind fun env he s1 x=>?_
 subst he
 refine⟨lim.keeps x.toInCall.keep,codeAny_func ?_⟩
 obtain⟨t,ht,hq⟩:=hbody A outer s H vs Q E (hr.deeper _) hsp
 have I:Inv (ig CX P w K mg base N qual scope f cdv A outer s H E) [] (start N vs) H s1:=Bq S hr.hd e0 hl r x
 refine g_ (ht [] s1 (start N vs) H _ I hq) (fun fl s' hs=>?_) fun e s' hs=>hs
 have fin:∀{σ':St} {H':Hp} {v:V} {u:Value},Inv (ig CX P w K mg base N qual scope f cdv A outer s H E) [] σ' H' s'->RelV v u->Q v H'->CE outer P w H s Q u s':=
  fun {σ' H' v u} J rv q=>⟨v,H',J.os,J.bare,J.base,J.hok,rv,q⟩
 cases fl with
 | ret u=>
  obtain⟨v,σ',H',J,rv,q⟩:=hs
  exact fin J rv q
 | next=>
  obtain⟨σ',H',J,q⟩:=hs
  exact fin (v:=V.non) (u:=Value.none) J rfl q
 | brk=>
  obtain⟨_,_,_,q⟩:=hs
  exact False.elim q
 | cont=>
  obtain⟨_,_,_,q⟩:=hs
  exact False.elim q
section
variable {X:Cx} {x:Str} {p pos:Pos} {e:Expr} {es:List Expr} {t:TA} {id T:String} {r:List V->Hp->VK->Prop}
noncomputable def ZJ (r:List V->Hp->VK->Prop) (t:TA):TE:=fun σ H Q=>t σ H fun vs H1=>r vs H1 Q
theorem TV (hc:cV X (.builtin id) r) (hg:Gl X x) (hm:X.mg x=none) (hv:bootBuiltins x=some (.builtin id)) (ha:PA X (e::es) t) (hn:x ≠ "__name__" := by decide) (hdb:(x==("__debug__" : Str))=false:=by decide)
  (he:starEach (e::es) X.env=(false,eval e X.env)::starEach es X.env:=by rfl) (hpl:(backTo pos (starEach es X.env)).any (·.1)=false:=by rfl):PE X (.Call (.Name x p) (e::es) [] pos) (ZJ r t):=by
 refine .mk ?_
 intro pins s σ H Q I h
 refine rn (iV I hg hm hv ?_ hn hdb)
 exact PyProof.Rows.callWith_builtin1 (cT (ha pos pins s σ H _ I h) fun us s1 ⟨vs,H1,I1,r1,q1⟩=>hc pins s1 σ H1 vs us Q I1 r1 q1) he hpl
theorem P_ (hc:cV X (.type T) r) (hg:Gl X x) (hm:X.mg x=none) (hv:bootBuiltins x=some (.type T)) (ha:PA X (e::es) t) (hn:x ≠ "__name__" := by decide) (hdb:(x==("__debug__" : Str))=false:=by decide)
  (he:starEach (e::es) X.env=(false,eval e X.env)::starEach es X.env:=by rfl) (hpl:(backTo pos (starEach es X.env)).any (·.1)=false:=by rfl):PE X (.Call (.Name x p) (e::es) [] pos) (ZJ r t):=by
 refine .mk ?_
 intro pins s σ H Q I h
 refine rn (iV I hg hm hv ?_ hn hdb)
 exact PyProof.Rows.callWith_type1 (cT (ha pos pins s σ H _ I h) fun us s1 ⟨vs,H1,I1,r1,q1⟩=>hc pins s1 σ H1 vs us Q I1 r1 q1) he hpl
theorem JK (hc:cV X (.type T) r) (hg:Gl X x) (hm:X.mg x=none) (hv:bootBuiltins x=some (.type T)) (hn:x ≠ "__name__" := by decide) (hdb:(x==("__debug__" : Str))=false:=by decide) :
  PE X (.Call (.Name x p) [] [] pos) (ZJ r Wd):=by
 refine .mk ?_
 intro pins s σ H Q I h
 refine rn (iV I hg hm hv ?_ hn hdb)
 exact PyProof.Rows.callWith_type0 (hc pins s σ H [] [] Q I .nil h)
end
end L2
namespace HT
open PySem PyProof.Rows
section
open PySem.SeqAt
open PySem.AutoSeq1 (wpAny_loadPart')
open PySem.MeetsSeq PySem.MeetsSeq2 PySem.MeetsSeq3
end
section
variable {prog:Program} {w:World} {A:Around} {E:Value->Shared->Prop} {s:Shared}
theorem X3 {t b:Addr} {vs ws:List Value} {Q:Value->Shared->Prop} (ht:IsTup s.heap t vs.toArray) (hb:IsTup s.heap b ws.toArray) (hv:vs≠[])
  (h1:ws=[]->Q (.ref t) s) (h2:ws≠[]->Q (.ref s.heap.objs.size) { s with heap:=s.heap.push { cls:=.type "tuple",data:=.seq (vs++ws).toArray } })
  (hsz:vs.length+ws.length<=sizeLine):wpAny (model prog w) A (binaryOp .Add (.ref t) (.ref b)) Q E s:=by
 obtain⟨⟨cls,dd,data,sl⟩,ho,hc,n,hd⟩:=id ht
 obtain⟨⟨cls2,dd2,data2,sl2⟩,ho2,hc2,n2,hd2⟩:=id hb
 simp only at hc hd hc2 hd2
 subst hc hd hc2 hd2
 have e:vs.toArray++ws.toArray=(vs++ws).toArray:=by simp
 by_cases hw:ws=[]
 ·exact concat_meets ⟨_,ho,rfl⟩ ⟨_,ho2,rfl⟩ noFill_tuple_add seq_tuple_add PySem.F.slot_tuple_add PySem.F.entry_tuple_add (PySem.F.args_tuple_add_2 _ _)
   (tuple_addW1 t b vs.toArray ws.toArray n n2 dd dd2 sl sl2 (by simpa using hv) (by simp[hw])) ⟨ho,ho2,h1 hw⟩
 ·refine concat_meets ⟨_,ho,rfl⟩ ⟨_,ho2,rfl⟩ noFill_tuple_add seq_tuple_add PySem.F.slot_tuple_add PySem.F.entry_tuple_add (PySem.F.args_tuple_add_2 _ _)
   (tuple_addW2 t b vs.toArray ws.toArray n n2 dd dd2 sl sl2 (by simpa using hv) (by simpa using hw) (by rw[gA,gA]; exact hsz)) ⟨ho,ho2,?_⟩
  rw[e]
  exact h2 hw
noncomputable def gG (n d:Nat):Option Int->Nat
 | none=>d
 | some v=>if v<0 then(v+(n:Int)).toNat else min v.toNat n
theorem Gn (n d:Nat):gG n d none=d:=rfl
theorem vf (n d k:Nat):gG n d (some (k:Int))=min k n:=by
 show(if(k:Int)<0 then((k:Int)+(n:Int)).toNat else min (k:Int).toNat n)=min k n
 rw[bB (by omega),tQ]
theorem Z0 (n d:Nat) (hd:d<=n) (o:Option Int):gG n d o<=n:=by
 cases o with
 | none=>exact hd
 | some v=>
  show(if v<0 then(v+(n:Int)).toNat else min v.toNat n)<=n
  by_cases hv:v<0
  ·rw[aP hv]; omega
  ·rw[bB hv]; exact Nat.min_le_right _ _
theorem Og (v:Int) (n d:Nat):(if v<0 then max (v+(n:Int)) 0 else min v (n:Int))=((gG n d (some v):Nat):Int):=by
 show(if v<0 then max (v+(n:Int)) 0 else min v (n:Int))=(((if v<0 then(v+(n:Int)).toNat else min v.toNat n):Nat):Int)
 by_cases hv:v<0
 ·simp only[aP hv]; omega
 ·simp only[bB hv]; omega
theorem K8 (lo hi:Option Int) (n:Nat):Builtin.Slice.sliceAdjust lo hi 1 (n:Int)=(((gG n 0 lo:Nat):Int),((gG n n hi:Nat):Int)):=by
 have h1:¬((1:Int)<0):=by omega
 unfold Builtin.Slice.sliceAdjust
 simp only[h1,if_false]
 refine Prod.ext ?_ ?_
 ·cases lo with
  | none=>rfl
  | some v=>exact Og v n 0
 ·cases hi with
  | none=>rfl
  | some v=>exact Og v n n
theorem JG (i j:Nat):Builtin.Slice.slicePlaces (i:Int) (j:Int) 1=j-i:=by
 unfold Builtin.Slice.slicePlaces
 have h1:(1:Int)>0:=by omega
 simp only[h1,if_true,Int.ediv_one]
 split <;> omega
theorem vV {v:Value} {o:Option Int} {Q:Option Int->Shared->Prop} (p:IsPart v o) (h:Q o s):wpAny (model prog w) A (Builtin.Slice.slicePartIndex v) Q E s:=by
 cases p with
 | none=>exact slicePart_none h
 | int i t=>exact slicePart_int h
theorem lF {sl:Addr} {vl vu:Value} {lo hi:Option Int} {n:Nat} {Q:Int×Int×Nat->Shared->Prop} (hs:s.heap.IsSliceOf sl vl vu .none) (pl:IsPart vl lo) (pu:IsPart vu hi)
  (h:Q (((gG n 0 lo:Nat):Int),1,gG n n hi-gG n 0 lo) s):wpAny (model prog w) A (Builtin.Slice.sliceApplied (.ref sl) (pure (n:Int))) Q E s:=by
 obtain⟨os,hos,hcs,hds⟩:=id hs
 unfold Builtin.Slice.sliceApplied Builtin.Slice.sliceFields
 refine aW (aW (jE hos hds (x:=vl) rfl (aW (jE hos hds (x:=vu) rfl (aW (jE hos hds (x:=.none) rfl (bV ?_)))))))
 refine aW (slicePart_none ?_)
 show wpAny _ _ (if((1:Int)==0)=true then _ else _) _ _ s
 rw[bB (by decide)]
 refine aW (vV pl (aW (vV pu (aW (bV ?_)))))
 show wpAny _ _ (match Builtin.Slice.sliceAdjust lo hi 1 (n:Int) with | (lo,hi)=>pure (lo,(1:Int),Builtin.Slice.slicePlaces lo hi 1)) _ _ s
 rw[K8 lo hi n]
 show wpAny _ _ (pure (((gG n 0 lo:Nat):Int),(1:Int),Builtin.Slice.slicePlaces ((gG n 0 lo:Nat):Int) ((gG n n hi:Nat):Int) 1)) _ _ s
 rw[JG]
 exact bV h
theorem Tw (xs:Array Value) (i k:Nat):((List.range k).filterMap fun(m:Nat)=>xs[((i:Int)+(m:Int)*1).toNat]?).toArray=((xs.toList.drop i).take k).toArray:=by
 have e:(fun(m:Nat)=>xs[((i:Int)+(m:Int)*1).toNat]?)=fun m=>xs[i+m]?:=by
  funext m
  have:((i:Int)+(m:Int)*1).toNat=i+m:=by omega
  rw[this]
 rw[e]
 have:=pick_run xs i k
 rw[List.filterMap_map] at this
 have e2:((fun x=>xs[x]?)∘fun x=>i+x)=fun m=>xs[i+m]?:=rfl
 rw[e2] at this
 rw[this]
theorem rP {t sl:Addr} {items:Array Value} {vl vu:Value} {lo hi:Option Int} {Q:Value->Shared->Prop} (ht:IsTup s.heap t items) (hs:s.heap.IsSliceOf sl vl vu .none) (pl:IsPart vl lo) (pu:IsPart vu hi)
  (hw:¬(gG items.size 0 lo=0/\gG items.size items.size hi=items.size))
  (h:Q (.ref s.heap.objs.size) { s with heap:=s.heap.push { cls:=.type "tuple",data:=.seq ((items.toList.drop (gG items.size 0 lo)).take (gG items.size items.size hi-gG items.size 0 lo)).toArray } })
  (hsz:items.size<=sizeLine):wpAny (model prog w) A (getItem (.ref t) (.ref sl)) Q E s:=by
 have NP:sizeOk (.seq ((items.toList.drop (gG items.size 0 lo)).take (gG items.size items.size hi-gG items.size 0 lo)).toArray):=by
  show((items.toList.drop (gG items.size 0 lo)).take (gG items.size items.size hi-gG items.size 0 lo)).toArray.size<=sizeLine
  rw[gA,jG,wO,nj]
  omega
 have hj:gG items.size items.size hi<=items.size:=Z0 _ _ (bI _) hi
 obtain⟨os,hos,hcs,hds⟩:=id hs
 have hTs:s.TypeIs (.ref sl) "slice" := ⟨os,hos,hcs⟩
 unfold getItem
 try with_reducible refine pK ?_
 first | refine aW (bV ?_) | skip
 refine aW (wpAny_sequenceKey ht.typeIs (by decide) ?_)
 refine aW (PB (name:=Str.ofString "__getitem__") ht.typeIs PyProof.Rows.slot_tuple_getitem
  (wQ PyProof.Rows.slot_tuple_getitem ht.typeIs entry_tuple_getitem ?_ (args_tuple_getitem _ _)))
 show wpAny _ _ (Builtin.Tuple.tupleItemsOf (.ref t) >>= _) _ _ s
 refine aW (tupleItemsOf_ ht ?_)
 refine aW (wpAny_typeOf hTs ?_)
 rw[aP (by decide)]
 refine aW (lF hs pl pu ?_)
 have hno:¬((((gG items.size 0 lo:Nat):Int)==0&&(1:Int)==1&&(gG items.size items.size hi-gG items.size 0 lo)==items.size)=true):=by
  intro q
  rw[wM,wM] at q
  have q1:((gG items.size 0 lo:Nat):Int)=0:=eq_of_beq q.1.1
  have q2:gG items.size items.size hi-gG items.size 0 lo=items.size:=eq_of_beq q.2
  exact hw ⟨by omega,by omega⟩
 show wpAny _ _ (if(((gG items.size 0 lo:Nat):Int)==0&&(1:Int)==1&&(gG items.size items.size hi-gG items.size 0 lo)==items.size)=true then _ else _) _ _ s
 rw[bB hno,Tw]
 first
  | exact aW (m:=Builtin.Tuple.tupleExact _) (uN (bV ⟨_,rfl,bV h⟩) NP)
  | exact aW (m:=Builtin.Tuple.tupleExact _) (uN (aW (bV (bV ⟨_,rfl,bV h⟩))) NP)
  | exact aW (aW (m:=Builtin.Tuple.tupleExact _) (uN (bV (bV ⟨_,rfl,bV h⟩)) NP))
  | exact aW (aW (m:=Builtin.Tuple.tupleExact _) (uN (bV ⟨_,rfl,bV h⟩) NP))
end
end HT
namespace L2
open PySem PySem.Spec PyProof.Rows
noncomputable abbrev TO:=St->Hp->(Option Int->Hp->Prop)->Prop
structure PO (X:Cx) (e:Option Expr) (t:TO):Prop where
 mk ::
 go :
 ∀(pins:List (Addr×Obj)) (s:Shared) (σ:St) (H:Hp) (Q:Option Int->Hp->Prop),Inv X pins σ H s->t σ H Q ->
  wpAny (model X.prog X.w) X.A (evalPart e X.env) (fun u s'=>∃o H',Inv X pins σ H' s'/\IsPart u o/\Q o H') X.xe s
instance {X:Cx} {e:Option Expr} {t:TO}:CoeFun (PO X e t) (fun _=>
 ∀(pins:List (Addr×Obj)) (s:Shared) (σ:St) (H:Hp) (Q:Option Int->Hp->Prop),Inv X pins σ H s->t σ H Q ->
  wpAny (model X.prog X.w) X.A (evalPart e X.env) (fun u s'=>∃o H',Inv X pins σ H' s'/\IsPart u o/\Q o H') X.xe s):=⟨PO.go⟩
noncomputable def Lf:TO:=fun _ H Q=>Q none H
noncomputable def Ys (t:TE):TO:=fun σ H Q=>t σ H fun x H1=>∃i,x=.int i/\Q (some i) H1
section
variable {X:Cx} {e:Expr} {te:TE} {lo hi:Option Expr} {tl th:TO} {pos p2:Pos}
theorem eX:PO X none Lf:=by
 refine .mk ?_
 intro pins s σ H Q I h
 rw[evalPart_none]
 exact bV ⟨none,H,I,.none,h⟩
theorem du (h:PE X e te):PO X (some e) (Ys te):=by
 refine .mk ?_
 intro pins s σ H Q I hw
 rw[evalPart_some]
 refine cT (h pins s σ H _ I hw) fun u s1 qx=>?_
 obtain⟨x,H1,I1,r1,q1⟩:=qx
 obtain⟨i,rfl,q⟩:=q1
 obtain⟨t,rfl⟩:=r1
 exact⟨some i,H1,I1,.int i t,q⟩
structure SlR (X:Cx) (r:V->Option Int->Option Int->Hp->VK->Prop):Prop where
 mk ::
 go :
 ∀(pins:List (Addr×Obj)) (s:Shared) (σ:St) (H:Hp) (x:V) (v vl vu:Value) (lo hi:Option Int) (sl:Addr) (Q:VK),Inv X pins σ H s->RelV x v->s.heap.IsSliceOf sl vl vu .none->IsPart vl lo->IsPart vu hi->r x lo hi H Q ->
  ∃T id,typeLookup (.type T) "__getitem__" = pure (some (.builtin id))/\s.TypeIs v T/\wpAny (model X.prog X.w) X.A (getItem v (.ref sl)) (EP X pins σ Q) X.xe s
instance {X:Cx} {r:V->Option Int->Option Int->Hp->VK->Prop}:CoeFun (SlR X r) (fun _=>
 ∀(pins:List (Addr×Obj)) (s:Shared) (σ:St) (H:Hp) (x:V) (v vl vu:Value) (lo hi:Option Int) (sl:Addr) (Q:VK),Inv X pins σ H s->RelV x v->s.heap.IsSliceOf sl vl vu .none->IsPart vl lo->IsPart vu hi->r x lo hi H Q ->
  ∃T id,typeLookup (.type T) "__getitem__" = pure (some (.builtin id))/\s.TypeIs v T/\wpAny (model X.prog X.w) X.A (getItem v (.ref sl)) (EP X pins σ Q) X.xe s):=⟨SlR.go⟩
noncomputable def tSl (r:V->Option Int->Option Int->Hp->VK->Prop) (te:TE) (tl th:TO):TE:=fun σ H Q=>te σ H fun x H1=>tl σ H1 fun l H2=>th σ H2 fun u H3=>r x l u H3 Q
theorem cZ {r:V->Option Int->Option Int->Hp->VK->Prop} (hr:SlR X r) (he:PE X e te) (hl:PO X lo tl) (hu:PO X hi th):PE X (.Subscript e (.Slice lo hi none p2) pos) (tSl r te tl th):=by
 refine .mk ?_
 intro pins s σ H Q I h
 refine Subscript_ (cT (he pins s σ H _ I h) fun v s1 qx=>?_)
 obtain⟨x,H1,I1,r1,q1⟩:=qx
 refine wpAny_Slice (cT (hl pins s1 σ H1 _ I1 q1) fun vl s2 qx=>?_)
 obtain⟨l,H2,I2,pl,q2⟩:=qx
 refine cT (hu pins s2 σ H2 _ I2 q2) fun vu s3 qx=>?_
 obtain⟨u,H3,I3,pu,q3⟩:=qx
 rw[evalPart_none]
 refine bV ?_
 have I4:Inv X pins σ H3 { s3 with heap:=s3.heap.push { cls:=.type "slice",data:=.fields #[vl,vu,.none] } }:=I3.kept (t':=s3.toks) fun b ob q=>dY _ q
 obtain⟨T,id,hT,ht,hg⟩:=hr pins { s3 with heap:=s3.heap.push { cls:=.type "slice",data:=.fields #[vl,vu,.none] } } σ H3 x v vl vu l u s3.heap.objs.size Q I4 r1 (Heap.IsSliceOf.new ..) pl pu q3
 show wpAny (model X.prog X.w) X.A (subscriptTail e (.Slice lo hi none p2) v (.ref s3.heap.objs.size)) (EP X pins σ Q) X.xe { s3 with heap:=s3.heap.push { cls:=.type "slice",data:=.fields #[vl,vu,.none] } }
 exact tail_any (ops:=[.ref s3.heap.objs.size,v]) ht hT hg (by with_unfolding_all rfl)
noncomputable def pM (xs:List V) (lo hi:Option Int):List V:=(xs.drop (HT.gG xs.length 0 lo)).take (HT.gG xs.length xs.length hi-HT.gG xs.length 0 lo)
theorem uJ (xs:List V) (lo hi:Option Int):(pM xs lo hi).length<=xs.length:=by
 unfold pM
 rw[jG,wO]
 omega
noncomputable def aeF (K:PySem.W.Frag):V->Option Int->Option Int->Hp->VK->Prop:=fun x lo hi H Q=>∃a xs,x=.ref a/\cB K H a xs /\
 ¬(HT.gG xs.length 0 lo=0/\HT.gG xs.length xs.length hi=xs.length)/\∀p,H p=none->Q (.ref p) (upd H p (.tup (pM xs lo hi)))
theorem ZV:SlR X (aeF X.K):=by
 refine .mk ?_
 intro pins s σ H x v vl vu lo hi sl Q I rx hs pl pu h
 obtain⟨a,xs,rfl,hx,hw,q⟩:=h
 cases rx
 obtain⟨its,r,ht,hz⟩:=I.tuple hx
 have hlen:its.toArray.size=xs.length:=by rw[gA]; exact r.length.symm
 refine⟨"tuple",_,PyProof.Rows.slot_tuple_getitem.lookup,ht.typeIs,?_⟩
 refine HT.rP ht hs pl pu (by rw[hlen]; exact hw) ?_ (by rw[hlen]; exact hz)
 rw[hlen]
 refine⟨.ref s.heap.objs.size,_,I.laid (t':=s.toks) (o:=.tup (pM xs lo hi)) (fun b ob q=>dY _ q) (bI _) ?_,rfl,q _ (I.hok.fresh (bI _))⟩
 exact⟨n_ (uJ xs lo hi) hz,_,(r.drop (HT.gG xs.length 0 lo)).take (HT.gG xs.length xs.length hi-HT.gG xs.length 0 lo),IsTup.new _ _⟩
noncomputable def acP (K:PySem.W.Frag):R2:=fun x y H Q=>∃a b xs ys,x=.ref a/\y=.ref b/\cB K H a xs/\cB K H b ys/\xs≠[]/\xs.length+ys.length<=sizeLine /\
 (ys=[]->Q (.ref a) H)/\(ys≠[]->∀p,H p=none->Q (.ref p) (upd H p (.tup (xs++ys))))
theorem Vals.Dv {xs:List V} {us:List Value} (r:Vals xs us):us=[]↔xs=[]:=by
 cases r with
 | nil=>simp
 | cons _ _=>simp
theorem W5:qJ X (binaryOp .Add) (acP X.K):=by
 refine .mk ?_
 intro pins s σ H x y v u Q I rx ry h
 obtain⟨a,b,xs,ys,rfl,rfl,ha,hb,hx,hz,q1,q2⟩:=h
 cases rx
 cases ry
 obtain⟨its,r1,p1,_⟩:=I.tuple ha
 obtain⟨its2,r2,p2,_⟩:=I.tuple hb
 refine HT.X3 p1 p2 (fun z=>hx (r1.Dv.mp z)) (fun z=>⟨.ref a,H,I,rfl,q1 (r2.Dv.mp z)⟩) (fun z=>?_) (by rw[<- r1.length,<- r2.length]; exact hz)
 refine⟨.ref s.heap.objs.size,_,I.laid (t':=s.toks) (o:=.tup (xs++ys)) (fun b ob q=>dY _ q) (bI _) ?_,rfl,q2 (fun w=>z (r2.Dv.mpr w)) _ (I.hok.fresh (bI _))⟩
 exact⟨by rw[gH]; exact hz,_,r1.append r2,IsTup.new _ _⟩
end
noncomputable def Uu (n:Nat) (i:Int):Option Nat:=if 0<=i then(if i<n then some i.toNat else none) else if -(n:Int)<=i then some (i+n).toNat else none
noncomputable def Il {α:Type} (xs:List α) (i:Int):Option α:=(Uu xs.length i).bind fun j=>xs[j]?
theorem Nr {n:Nat} {i:Int} {j:Nat} (h:Uu n i=some j):seqIndex? i n=some j/\j<n/\-(n:Int)<=i/\i<n:=by
 unfold Uu at h
 by_cases h0:0<=i
 ·rw[aP h0] at h
  by_cases h1:i<n
  ·rw[aP h1] at h
   have e:i.toNat=j:=Option.some.inj h
   exact⟨by rw[seqIndex_of h0 h1,e],by omega,by omega,h1⟩
  ·rw[bB h1] at h; cases h
 ·rw[bB h0] at h
  by_cases h1:-(n:Int)<=i
  ·rw[aP h1] at h
   have e:(i+n).toNat=j:=Option.some.inj h
   exact⟨by rw[seqIndex_neg (by omega) h1,e],by omega,h1,by omega⟩
  ·rw[bB h1] at h; cases h
theorem vC {α:Type} {xs:List α} {i:Int} {v:α} (h:Il xs i=some v):∃j,seqIndex? i xs.length=some j/\xs[j]?=some v/\j<xs.length/\-(xs.length:Int)<=i/\i<xs.length:=by
 unfold Il at h
 cases e:Uu xs.length i with
 | none=>rw[e] at h; cases h
 | some j=>
  rw[e] at h
  obtain⟨h1,h2,h3,h4⟩:=Nr e
  exact⟨j,h1,h,h2,h3,h4⟩
theorem bz {α:Type} {xs:List α} {j:Nat} {v:α} (h:xs[j]?=some v):Il xs (j:Int)=some v:=by
 have hj:j<xs.length:=(fj.mp h).1
 have e:Uu xs.length (j:Int)=some j:=by
  unfold Uu
  rw[aP (by omega),aP (by omega)]; simp
 unfold Il; rw[e]; exact h
theorem Ik {α:Type} (xs:List α) (v:α):Il (xs++[v]) (-1)=some v:=by
 have hl:(xs++[v]).length=xs.length+1:=by simp
 have e:Uu (xs++[v]).length (-1)=some xs.length:=by
  unfold Uu
  rw[hl,bB (by decide),aP (by omega)]
  congr 1
  omega
 unfold Il
 rw[e]
 show(xs++[v])[xs.length]?=some v
 simp
noncomputable def X_ (b:Expr):Prop:=∀o i,subscripted b false o i=operate [o,i] (getItem o i)
structure VJ (X:Cx) (r:R2):Prop where
 mk ::
 go :
 ∀(value slice:Expr) (pins:List (Addr×Obj)) (s:Shared) (σ:St) (H:Hp) (x y:V) (v u:Value) (Q:VK),Inv X pins σ H s->RelV x v->RelV y u->r x y H Q ->
  subscripted slice false v u=operate [v,u] (getItem v u)->wpAny (model X.prog X.w) X.A (subscriptTail value slice v u) (EP X pins σ Q) X.xe s
instance {X:Cx} {r:R2}:CoeFun (VJ X r) (fun _=>
 ∀(value slice:Expr) (pins:List (Addr×Obj)) (s:Shared) (σ:St) (H:Hp) (x y:V) (v u:Value) (Q:VK),Inv X pins σ H s->RelV x v->RelV y u->r x y H Q ->
  subscripted slice false v u=operate [v,u] (getItem v u)->wpAny (model X.prog X.w) X.A (subscriptTail value slice v u) (EP X pins σ Q) X.xe s):=⟨VJ.go⟩
noncomputable def MtR (X:Cx) (id:String) (r:V->List V->Hp->VK->Prop):Prop:=
 ∀(pins:List (Addr×Obj)) (s:Shared) (σ:St) (H:Hp) (x:V) (xs:List V) (v:Value) (us:List Value) (Q:VK),Inv X pins σ H s->RelV x v->Vals xs us->r x xs H Q ->
  wpAny (model X.prog X.w) X.A (call (.builtin id) (v::us)) (EP X pins σ Q) X.xe s
section
variable {X:Cx} {a b:Expr} {ta tb:TE} {pos:Pos}
theorem VJ.or {r r':R2} (h:VJ X r) (h':VJ X r'):VJ X (fun x y H Q=>r x y H Q\/r' x y H Q):=by
 refine .mk ?_
 intro value slice pins s σ H x y v u Q I rx ry q hs
 rcases q with q | q
 ·exact h value slice pins s σ H x y v u Q I rx ry q hs
 ·exact h' value slice pins s σ H x y v u Q I rx ry q hs
theorem aX {r:R2} (hr:VJ X r) (ha:PE X a ta) (hb:PE X b tb) (hs:X_ b):PE X (.Subscript a b pos) (R1 r ta tb):=by
 refine .mk ?_
 intro pins s σ H Q I h
 exact Subscript_ (abb ha hb I h fun v u s2 x y H2 I2 rx ry q=>hr a b pins s2 σ H2 x y v u Q I2 rx ry q (hs _ _))
noncomputable def aeK (K:PySem.W.Frag):R2:=fun x y H Q=>∃p xs i v,x=.ref p/\y=.int i/\dh K H p xs/\Il xs i=some v/\Q v H
noncomputable def aeJ (K:PySem.W.Frag):R2:=fun x y H Q=>∃p xs i v,x=.ref p/\y=.int i/\cB K H p xs/\Il xs i=some v/\Q v H
theorem Np:VJ X (aeK X.K):=by
 refine .mk ?_
 intro value slice pins s σ H x y v u Q I rx ry h hs
 obtain⟨p,xs,i,z,rfl,rfl,hq,he,q⟩:=h
 cases rx
 obtain⟨t,rfl⟩:=ry
 obtain⟨its,r,pl,hz⟩:=I.list hq
 obtain⟨j,h1,h2,h3,h4,h5⟩:=vC he
 obtain⟨w,ew,Z5⟩:=r.get h2
 have hl:=r.length
 have hn:=xQ
 have fin:EP X pins σ Q w s:=⟨z,H,I,Z5,q⟩
 by_cases h0:0<=i
 ·have hj:i.toNat=j:=by
   rw[seqIndex_of h0 h5] at h1
   exact Option.some.inj h1
  exact item_listR pl.isList h0 (by omega) (by rw[hj]; simpa using ew) fin hs
 ·have hj:(i+(its.toArray.size:Int)).toNat=j:=by
   rw[seqIndex_neg (by omega) h4] at h1
   rw[gA,<- hl]
   exact Option.some.inj h1
  exact subscriptTail_builtinR (x:=w) pl.isList.typeIs slot_list_getitem.lookup
   (wpAny_getItem_list_neg (Q:=fun r s'=>r=w/\EP X pins σ Q r s') pl.isList (by omega) (by rw[gA] <;> omega) (by omega) (by rw[hj]; simpa using ew) ⟨rfl,fin⟩) hs
theorem aaT:VJ X (aeJ X.K):=by
 refine .mk ?_
 intro value slice pins s σ H x y v u Q I rx ry h hs
 obtain⟨p,xs,i,z,rfl,rfl,hq,he,q⟩:=h
 cases rx
 obtain⟨t,rfl⟩:=ry
 obtain⟨its,r,pl,hz⟩:=I.tuple hq
 obtain⟨j,h1,h2,h3,h4,h5⟩:=vC he
 obtain⟨w,ew,Z5⟩:=r.get h2
 have hl:=r.length
 have hn:=xQ
 have fin:EP X pins σ Q w s:=⟨z,H,I,Z5,q⟩
 exact subscriptTail_builtinR (x:=w) pl.typeIs slot_tuple_getitem.lookup
  (getItem_tuple (j:=j) (Q:=fun r s'=>r=w/\EP X pins σ Q r s') pl (by omega) (by omega) (by rw[gA,<- hl]; exact h1) (by simpa using ew) ⟨rfl,fin⟩) hs
theorem J1 (its:List Value) (n j:Nat) (u:Value):Obj.mapSeq (·.setIfInBounds j u) { cls:=.type "list",data:=.seq its.toArray n }={ cls:=.type "list",data:=.seq (its.set j u).toArray n }:=by
 simp[Obj.mapSeq]
theorem Inv.lst {pins:List (Addr×Obj)} {σ:St} {H:Hp} {s:Shared} {p:Addr} {xs:List V} (I:Inv X pins σ H s) (h:H p=some (.lst xs)) :
  ∃(its:List Value) (n:Nat),Vals xs its/\s.heap.get? p=some { cls:=.type "list",data:=.seq its.toArray n }/\xs.length<=sizeLine:=by
 obtain⟨z,its,n,r,e⟩:=I.hok p _ h
 exact⟨its,n,r,e,z⟩
theorem Inv.aaH {pins:List (Addr×Obj)} {σ:St} {H:Hp} {s:Shared} {p:Addr} {xs ys:List V} {its its':List Value} {n n':Nat} {f:Obj->Obj} (I:Inv X pins σ H s) (h:H p=some (.lst xs))
  (ho:s.heap.get? p=some { cls:=.type "list",data:=.seq its.toArray n }) (hf:f { cls:=.type "list",data:=.seq its.toArray n }={ cls:=.type "list",data:=.seq its'.toArray n' }) (r:Vals ys its') (hz:ys.length<=sizeLine) (t:Nat) :
  Inv X pins σ (upd H p (.lst ys)) { s with heap:=s.heap.update p f,toks:=t }:=by
 have e:(s.heap.update p f).get? p=some { cls:=.type "list",data:=.seq its'.toArray n' }:=by
  rw[zb f ho (by rw[hf] <;> rfl),hf]
 refine I.write (x:=p) (e:=p) (by rw[h]; trivial) (.inl rfl) (fun b u hb q=>(uO _ _ (Ne.symm hb)).trans q) ⟨_,e⟩ ?_
 exact⟨hz,its',n',r,e⟩
noncomputable def acI:V->V->V->Hp->(Hp->Prop)->Prop:=fun o i v H Q=>∃p xs k j,o=.ref p/\i=.int k/\H p=some (.lst xs)/\Uu xs.length k=some j/\Q (upd H p (.lst (xs.set j v)))
theorem set_list:Rc X acI:=by
 refine .mk ?_
 intro pins s σ H o i v ov iv u Q I ro ri rv h
 obtain⟨p,xs,k,j,rfl,rfl,hp,hj,q⟩:=h
 cases ro
 obtain⟨t,rfl⟩:=ri
 obtain⟨its,n,r,ho,hz⟩:=I.lst hp
 obtain⟨h1,h2,h3,h4⟩:=Nr hj
 have hl:=r.length
 have hn:=xQ
 have I':Inv X pins σ (upd H p (.lst (xs.set j v))) { s with heap:=s.heap.update p (Obj.mapSeq (·.setIfInBounds j u)) }:=
  I.aaH hp ho (J1 its n j u) (r.set rv j) (by rw[List.length_set]; exact hz) s.toks
 by_cases h0:0<=k
 ·have hk:k.toNat=j:=by
   rw[seqIndex_of h0 h4] at h1
   exact Option.some.inj h1
  exact PySem.W.ki_setAt ho h0 (by omega) (by rw[gA,<- hl]; exact h4) (by rw[hk]; exact⟨_,I',q⟩)
 ·have hk:(k+(its.toArray.size:Int)).toNat=j:=by
   rw[seqIndex_neg (by omega) h3] at h1
   rw[gA,<- hl]
   exact Option.some.inj h1
  exact PySem.W.ki_setBack ho (by omega) (by rw[gA,<- hl]; exact h3) (by omega) (by rw[hk]; exact⟨_,I',q⟩)
theorem CZ (lo hi:Option Int) (n:Nat):(sliceBounds lo hi none n).1=((HT.gG n 0 lo:Nat):Int)/\(sliceBounds lo hi none n).2.1=((HT.gG n n hi:Nat):Int)/\(sliceBounds lo hi none n).2.2=1:=by
 refine⟨?_,?_,rfl⟩
 ·cases lo with
  | none=>simp[sliceBounds,HT.gG]
  | some i=>
   simp only[sliceBounds,HT.gG,Option.getD_none,show(1:Int)>0 by decide,if_true]
   by_cases h:i<0
   ·simp only[h,if_true] <;> omega
   ·simp only[h,if_false] <;> omega
 ·cases hi with
  | none=>simp[sliceBounds,HT.gG]
  | some i=>
   simp only[sliceBounds,HT.gG,Option.getD_none,show(1:Int)>0 by decide,if_true]
   by_cases h:i<0
   ·simp only[h,if_true] <;> omega
   ·simp only[h,if_false] <;> omega
theorem yV (its:List Value) (lo hi:Option Int):slicePick its.toArray lo hi none=((its.drop (HT.gG its.length 0 lo)).take (HT.gG its.length its.length hi-HT.gG its.length 0 lo)).toArray:=by
 obtain⟨h1,h2,h3⟩:=CZ lo hi its.toArray.size
 unfold slicePick
 rw[h1,h2,h3]
 simp only[sliceRange_one,pick_run,gA] <;> rfl
noncomputable def aeG (K:PySem.W.Frag):V->Option Int->Option Int->Hp->VK->Prop:=fun x lo hi H Q=>∃a xs,x=.ref a/\dh K H a xs/\∀p,H p=none->Q (.ref p) (upd H p (.lst (pM xs lo hi)))
theorem vd:SlR X (aeG X.K):=by
 refine .mk ?_
 intro pins s σ H x v vl vu lo hi sl Q I rx hs pl pu h
 obtain⟨a,xs,rfl,hx,q⟩:=h
 cases rx
 obtain⟨its,r,ht,hz⟩:=I.list hx
 have hlen:=r.length
 refine⟨"list",_,slot_list_getitem.lookup,ht.isList.typeIs,?_⟩
 refine wpAny_getItem_list_slice ht.isList hs pl pu .none (by simp) ?_ (by rw[gA] <;> omega)
 rw[yV,<- hlen]
 refine⟨.ref s.heap.objs.size,_,I.laid (t':=s.toks) (o:=.lst (pM xs lo hi)) (fun b ob q=>dY _ q) (bI _) ?_,rfl,q _ (I.hok.fresh (bI _))⟩
 exact⟨n_ (uJ xs lo hi) hz,_,0,(r.drop (HT.gG xs.length 0 lo)).take (HT.gG xs.length xs.length hi-HT.gG xs.length 0 lo),dJ _ rfl⟩
theorem Ek:cV X (.builtin "len") (fun xs H Q=>∃p ys,xs=[.ref p]/\(dh X.K H p ys\/cB X.K H p ys)/\Q (.int ys.length) H):=by
 refine .mk ?_
 intro pins s σ H xs us Q I r h
 obtain⟨p,ys,rfl,hq,q⟩:=h
 obtain⟨u,rfl,rx⟩:=vals1 r
 cases rx
 have hn:=xQ
 rcases hq with hq | hq
 ·obtain⟨its,r',pl,hz⟩:=I.list hq
  have hlen:=r'.length
  exact Calls.call_len_list pl.isList (by simp only[gA] <;> omega) ⟨.int ys.length,H,I.tok _,⟨s.toks+1,by rw[gA,hlen]⟩,q⟩
 ·obtain⟨its,r',pl,hz⟩:=I.tuple hq
  have hlen:=r'.length
  exact len_tuple pl (by simp only[gA] <;> omega) ⟨.int ys.length,H,I.tok _,⟨s.toks+1,by rw[gA,hlen]⟩,q⟩
theorem rW:cV X (.type "list") (fun xs H Q=>∃p ys,xs=[.ref p]/\(dh X.K H p ys\/cB X.K H p ys)/\∀l,H l=none->Q (.ref l) (upd H l (.lst ys))):=by
 refine .mk ?_
 intro pins s σ H xs us Q I r h
 obtain⟨p,ys,rfl,hq,q⟩:=h
 obtain⟨u,rfl,rx⟩:=vals1 r
 cases rx
 have fin:∀(its:List Value),Vals ys its->ys.length<=sizeLine->∀(h':Heap) (c':Nat),(∀b o',s.heap.get? b=some o'->h'.get? b=some o') ->
   h'.get? s.heap.objs.size=some { cls:=.type "list",dict:=none,data:=.seq its.toArray c',slots:=#[] }->EP X pins σ Q (.ref s.heap.objs.size) { s with heap:=h' }:=fun its r' hz h' c' kp e=>
  ⟨.ref s.heap.objs.size,_,I.laid (t':=s.toks) kp (bI _) (show cz X.prog X.w _ h' _ (.lst ys) from⟨hz,its,c',r',e⟩),rfl,q _ (I.hok.fresh (bI _))⟩
 rcases hq with hq | hq
 ·obtain⟨its,r',pl,hz⟩:=I.list hq
  have hlen:=r'.length
  obtain⟨o,ho,hc,n,hd⟩:=pl.isList
  exact call_list_seq p (.inl rfl) ho hc hd (fun h' c' kp e=>fin its r' hz h' c' kp e) (by simp only[gA] <;> omega)
 ·obtain⟨its,r',pl,hz⟩:=I.tuple hq
  have hlen:=r'.length
  obtain⟨o,ho,hc,n,hd⟩:=pl
  exact call_list_seq p (.inr rfl) ho hc hd (fun h' c' kp e=>fin its r' hz h' c' kp e) (by simp only[gA] <;> omega)
theorem zx:cV X (.type "tuple") (fun xs H Q=>∃p ys,xs=[.ref p]/\((dh X.K H p ys/\∀l,H l=none->Q (.ref l) (upd H l (.tup ys)))\/(cB X.K H p ys/\Q (.ref p) H))):=by
 refine .mk ?_
 intro pins s σ H xs us Q I r h
 obtain⟨p,ys,rfl,h⟩:=h
 obtain⟨u,rfl,rx⟩:=vals1 r
 cases rx
 rcases h with⟨hq,q⟩ | ⟨hq,q⟩
 ·obtain⟨its,r',pl,hz⟩:=I.list hq
  have hlen:=r'.length
  refine call_tuple_list pl.isList (fun h' kp=>?_) (by simp only[gA] <;> omega)
  have I1:Inv X pins σ H { s with heap:=h' }:=I.kept (t':=s.toks) kp
  have I2:Inv X pins σ (upd H h'.objs.size (.tup ys)) { s with heap:=h'.push { cls:=.type "tuple",data:=.seq its.toArray } }:=
   I1.laid (t':=s.toks) (fun b o e=>dY _ e) (bI _) (show cz X.prog X.w _ _ _ (.tup ys) from⟨hz,its,r',IsTup.new _ _⟩)
  exact⟨.ref h'.objs.size,_,I2,rfl,q _ (I1.hok.fresh (bI _))⟩
 ·obtain⟨its,r',pl,hz⟩:=I.tuple hq
  exact call_tuple_same pl ⟨.ref p,H,I,rfl,q⟩
noncomputable def tyV (K:PySem.W.Frag) (T:String) (x:V) (H:Hp):Prop:=match x with
 | .str _=>T = "str"
 | .int _=>T = "int"
 | .ref p=>(T = "list" /\ ∃xs,dh K H p xs)\/(T = "tuple" /\ ∃o,K.lookup p=some o/\o.cls=.type "tuple" /\ o.dict=none) \/
   (T = "dict" /\ ((∃kvs,H p=some (.dK kvs))\/∃kvs,H p=some (.dT kvs)))\/(T = "set" /\ ∃S n,H p=some (.set S n))
 | _=>False
theorem ZC {pins:List (Addr×Obj)} {σ:St} {H:Hp} {s:Shared} {T:String} {x:V} {v:Value} (I:Inv X pins σ H s) (r:RelV x v) (ty:tyV X.K T x H) :
  s.TypeIs v T/\∀a,v=.ref a->∃ob,s.heap.get? a=some ob/\ob.dict=none:=by
 cases x with
 | str z=>
  obtain⟨t,rfl⟩:=r
  cases(show T = "str" from ty)
  exact⟨typeIs_str s z t,fun _ e=>nomatch e⟩
 | int i=>
  obtain⟨t,rfl⟩:=r
  cases(show T = "int" from ty)
  exact⟨typeIs_int s i t,fun _ e=>nomatch e⟩
 | ref p=>
  cases r
  rcases ty with⟨rfl,xs,hq⟩ | ⟨rfl,o,hk,hc,hd⟩ | ⟨rfl,hk⟩ | ⟨rfl,S,n,hk⟩
  ·obtain⟨its,_,pl,_⟩:=I.list hq
   refine⟨pl.isList.typeIs,fun a e=>?_⟩
   cases e
   obtain⟨o,n,e,c,hd,_⟩:=pl
   exact⟨o,e,hd⟩
  ·refine⟨⟨o,I.oE p o hk,hc⟩,fun a e=>?_⟩
   cases e
   exact⟨o,I.oE _ o hk,hd⟩
  ·have z:∃o,s.heap.get? p=some o/\o.ExactDict:=by
    rcases hk with⟨kvs,hk⟩ | ⟨kvs,hk⟩
    ·obtain⟨_,_,_,_,o,_,_,e,ex,_⟩:=I.hok p _ hk
     exact⟨o,e,ex⟩
    ·obtain⟨_,_,_,_,o,_,_,e,ex,_⟩:=I.hok p _ hk
     exact⟨o,e,ex⟩
   obtain⟨o,e,ex⟩:=z
   refine⟨⟨o,e,ex.1⟩,fun a e2=>?_⟩
   cases e2
   exact⟨o,e,ex.2.1⟩
  ·obtain⟨o,_,_,_,e,ex,_⟩:=I.hok p _ hk
   refine⟨⟨o,e,ex.1⟩,fun a e2=>?_⟩
   cases e2
   exact⟨o,e,ex.2.1⟩
 | _=>exact False.elim ty
noncomputable def tBM (K:PySem.W.Frag) (T:String) (r:V->List V->Hp->VK->Prop) (to:TE) (t:TA):TE:=fun σ H Q=>to σ H fun x H1=>tyV K T x H1/\t σ H1 fun xs H2=>r x xs H2 Q
variable {o e:Expr} {es:List Expr} {to:TE} {t:TA} {name:Str} {apos cpos:Pos} {T id:String} {r:V->List V->Hp->VK->Prop}
theorem acU (pa:PlainAttrs T) (slot:Slot T name id) (hty:typeOf (.builtin id)=pure (.type "method_descriptor")) (hm:MtR X id r) (ho:PE X o to) (ha:PA X (e::es) t)
  (hbase:attributeBase o name X.env (eval o X.env)=eval o X.env:=by rfl)
  (hfew:((backTo cpos (starEach (e::es) X.env)).all (fun x=>!x.1)&&(backToKw cpos (keywordEach [] X.env)).all (fun x=>x.1.isSome)
   && decide ((e::es).length+([]:List Keyword).length+(if([]:List Keyword).isEmpty then 0 else 1)<30))=true:=by rfl)
  (hline:(apos.endLine==cpos.line)=true:=by rfl) (hs:starEach (e::es) X.env=(false,eval e X.env)::starEach es X.env:=by rfl) (hplain:(backTo cpos (starEach es X.env)).any (·.1)=false:=by rfl) :
  PE X (.Call (.Attribute o name apos) (e::es) [] cpos) (tBM X.K T r to t):=by
 refine .mk ?_
 intro pins s σ H Q I h
 refine wpAny_Call_method_late hbase hfew hline rfl (cT (ho pins s σ H _ I h) fun v s1 qx=>?_)
 obtain⟨x,H1,I1,r1,ty,q1⟩:=qx
 obtain⟨h1,h2⟩:=ZC I1 r1 ty
 refine⟨T,id,pa,slot,hty,h1,h2,?_⟩
 have hA:=ha cpos pins s1 σ H1 _ I1 q1
 rw[hs] at hA ⊢
 refine Calls.callWith_builtin (by show(false || (backTo cpos (starEach es X.env)).any (·.1))=false; rw[hplain] <;> rfl) (Calls.evalArgs_plain ?_)
 exact cT hA fun us s2 ⟨vs,H2,I2,r2,q2⟩=>hm pins s2 σ H2 x vs v us Q I2 r1 r2 q2
end
noncomputable def MtM (X:Cx) (id:String) (r:V->List V->Hp->VK->Prop):Prop:=
 ∀(pins:List (Addr×Obj)) (s:Shared) (σ:St) (H:Hp) (x:V) (xs:List V) (v:Value) (us:List Value) (Q:VK),Inv X pins σ H s->RelV x v->Vals xs us->r x xs H Q ->
  wpAny (model X.prog X.w) X.A (call (.builtin id) (v::us)) (EP X pins σ Q) X.xe s
theorem Vals.un {x:V} {xs:List V} {us:List Value} (h:Vals (x::xs) us):∃u r,us=u::r/\RelV x u/\Vals xs r:=by
 cases h with
 | cons r t=>exact⟨_,_,rfl,r,t⟩
theorem Vals.no {us:List Value} (h:Vals [] us):us=[]:=by
 cases h
 rfl
theorem Vals.one {x:V} {us:List Value} (h:Vals [x] us):∃u,us=[u]/\RelV x u:=by
 obtain⟨u,r,rfl,h1,h⟩:=h.un
 cases h.no
 exact⟨u,rfl,h1⟩
theorem Vals.two {x y:V} {us:List Value} (h:Vals [x,y] us):∃u v,us=[u,v]/\RelV x u/\RelV y v:=by
 obtain⟨u,r,rfl,h1,h⟩:=h.un
 obtain⟨v,rfl,h2⟩:=h.one
 exact⟨u,v,rfl,h1,h2⟩
theorem Vals.reverse {xs:List V} {us:List Value} (h:Vals xs us):Vals xs.reverse us.reverse:=by
 induction h with
 | nil=>exact .nil
 | cons r t ih=>rw[List.reverse_cons,List.reverse_cons]; exact Vals.append ih (.cons r .nil)
theorem Vals.rep {xs:List V} {us:List Value} (h:Vals xs us):∀k:Nat,Vals (List.replicate k xs).flatten (List.replicate k us).flatten
 | 0=>.nil
 | k+1=>by
  rw[Hc,Hc,G_,G_]
  exact Vals.append h (Vals.rep h k)
theorem foldl_rep (its:List Value):∀(k:Nat) (acc:List Value),
  List.foldl (fun x1 x2=>x1++x2) acc.toArray (List.replicate k its.toArray)=(acc++(List.replicate k its).flatten).toArray
 | 0,acc=>by simp
 | k+1,acc=>by
  have e:acc.toArray++its.toArray=(acc++its).toArray:=by simp
  have e2:(acc++its)++(List.replicate k its).flatten=acc++(List.replicate (k+1) its).flatten:=by
   rw[Hc,G_,wR]
  rw[<- e2,<- foldl_rep its k (acc++its),<- e,Hc,List.foldl_cons]
section
variable {X:Cx} {pins:List (Addr×Obj)} {σ:St} {H:Hp} {s:Shared} {l b:Addr} {xs ys zs:List V}
theorem Inv.aeZ {its its':List Value} {n:Nat} {f:Array Value->Array Value} {t':Nat} (I:Inv X pins σ H s) (hH:H l=some (.lst xs))
  (e:s.heap.get? l=some { cls:=.type "list",data:=.seq its.toArray n }) (hf:f its.toArray=its'.toArray) (hv:Vals ys its') (hz:ys.length<=sizeLine) :
  Inv X pins σ (upd H l (.lst ys)) { s with heap:=s.heap.update l (Obj.mapSeq f),toks:=t' }:=by
 have q:=PySem.IsL.update e f
 rw[hf] at q
 refine I.write (x:=l) (e:=l) (by rw[hH]; exact trivial) (.inl rfl) (fun b' u hb hu=>(uO s.heap (Obj.mapSeq f) (Ne.symm hb)).trans hu) ⟨_,q⟩ ?_
 exact⟨hz,its',_,hv,q⟩
theorem Inv.Xm {its:List Value} {t':Nat} (I:Inv X pins σ H s) (hv:Vals ys its) (hz:ys.length<=sizeLine) :
  Inv X pins σ (upd H s.heap.objs.size (.lst ys)) { s with heap:=s.heap.push { cls:=.type "list",data:=.seq its.toArray },toks:=t' }:=
 I.laid (fun _ _ q=>dY _ q) (bI _) ⟨hz,its,0,hv,dJ _ rfl⟩
theorem Inv.fresh (I:Inv X pins σ H s):H s.heap.objs.size=none:=I.hok.fresh (bI _)
theorem Inv.Xj (I:Inv X pins σ H s) (hH:H l=some (.lst xs)):xs.length<=sizeLine/\∃(its:List Value) (n:Nat),Vals xs its/\xs.length=its.length/\s.heap.get? l=some { cls:=.type "list",data:=.seq its.toArray n }:=by
 obtain⟨z,its,n,r,e⟩:=I.hok l _ hH
 exact⟨z,its,n,r,r.length,e⟩
theorem T6 {n:Nat} (h:n<=sizeLine):Builtin.List.listTooLong n=false:=by
 unfold Builtin.List.listTooLong
 exact ju (by omega)
end
section
variable {X:Cx}
noncomputable def Mg:V->List V->Hp->VK->Prop:=fun x vs H Q=>∃l xs y,x=.ref l/\vs=[y]/\H l=some (.lst xs)/\xs.length<sizeLine/\Q .non (upd H l (.lst (xs++[y])))
theorem fG:MtM X "list.append" Mg:=by
 intro pins s σ H x vs v us Q I rx rv h
 obtain⟨l,xs,y,rfl,rfl,hH,hz,q⟩:=h
 cases rx
 obtain⟨u,rfl,ru⟩:=rv.one
 obtain⟨z,its,n,r,hl,e⟩:=I.Xj hH
 refine call_meets F.slot_list_append ⟨_,e,rfl⟩ F.entry_list_append (F.args_list_append_2 _ _) (PySem.list_append l its.toArray n u (by rw[gA]; omega)) ⟨e,?_⟩
 refine⟨.non,_,I.aeZ (its':=its++[u]) hH e (by simp) (r.append (.cons ru .nil)) ?_,rfl,q⟩
 rw[gH,List.length_singleton]
 omega
noncomputable def Dg:R2:=fun x y H Q=>∃l b xs zs,x=.ref l/\y=.ref b/\H l=some (.lst xs)/\H b=some (.lst zs)/\xs.length+zs.length<=sizeLine/\∀p,H p=none->Q (.ref p) (upd H p (.lst (xs++zs)))
theorem tV:qJ X (binaryOp .Add) Dg:=by
 refine .mk ?_
 intro pins s σ H x y v u Q I rx ry h
 obtain⟨l,b,xs,zs,rfl,rfl,hH,hB,hz,q⟩:=h
 cases rx
 cases ry
 obtain⟨z,its,n,r,hl,e⟩:=I.Xj hH
 obtain⟨z2,its2,n2,r2,hl2,e2⟩:=I.Xj hB
 refine PySem.P.add_list e e2 ?_ (by rw[gA,gA]; omega)
 have ea:its.toArray++its2.toArray=(its++its2).toArray:=by simp
 rw[ea]
 exact⟨.ref _,_,I.Xm (t':=s.toks) (r.append r2) (by rw[gH]; omega),rfl,q _ I.fresh⟩
noncomputable def aeH:R2:=fun x y H Q=>∃l k xs,x=.ref l/\y=.int k/\H l=some (.lst xs)/\-(2 ^ 63)<=k/\k<2 ^ 63/\xs.length*k.toNat<=sizeLine /\
 ∀p,H p=none->Q (.ref p) (upd H p (.lst (List.replicate k.toNat xs).flatten))
theorem len_rep {α:Type} (xs:List α) (k:Nat):(List.replicate k xs).flatten.length=k*xs.length:=by
 induction k with
 | zero=>simp
 | succ k ih=>rw[Hc,G_,gH,ih,Nat.succ_mul,Nat.add_comm]
theorem aao:qJ X (binaryOp .Mult) aeH:=by
 refine .mk ?_
 intro pins s σ H x y v u Q I rx ry h
 obtain⟨l,k,xs,rfl,rfl,hH,h1,h2,hz,q⟩:=h
 cases rx
 obtain⟨t,rfl⟩:=ry
 obtain⟨z,its,n,r,hl,e⟩:=I.Xj hH
 have hlen:its.toArray.size*k.toNat<=sizeLine:=by rw[gA,<- hl]; exact hz
 have afi:¬its.toArray.size*k.toNat>(2 ^ 63-1) / 8:=by
  have:(sizeLine:Nat)<=(2 ^ 63-1) / 8:=by decide
  omega
 have hfit:¬(!Builtin.List.listFitsIndex k)=true:=by
  rw[fitsIndex_both h1 h2]
  exact lK
 have adg:¬Builtin.List.listTooLong (its.toArray.size*k.toNat)=true:=by
  rw[T6 hlen]
  exact lK
 have hnew:List.foldl (fun x1 x2=>x1++x2) #[] (List.replicate (if its.toArray.isEmpty=true then 0 else k.toNat) its.toArray)=(List.replicate k.toNat its).flatten.toArray:=by
  have f0:∀m:Nat,List.foldl (fun x1 x2=>x1++x2) #[] (List.replicate m its.toArray)=(List.replicate m its).flatten.toArray:=fun m=>by
   have:=foldl_rep its m []
   rw[Az] at this
   exact this
  rw[f0]
  cases its with
  | nil=>simp
  | cons a r'=>rw[bB (by simp)]
 refine wpAny_binaryOp_repeat_ref (T:="list") (U:="int") (by decide) ⟨_,e,rfl⟩ (fun s'=>typeIs_int s' k t) noFill_list_mul F.fills_int_mul F.slot_int_rmul repeat_list F.slot_int_index.lookup
  (call_meets F.slot_int_rmul (typeIs_int s k t) F.entry_int_rmul (F.args_int_rmul_2 _ _) (int___rmul___int_list k t l its.toArray n)
   ⟨e,rfl,⟨_,e,rfl⟩,call_meets F.slot_list_mul ⟨_,e,rfl⟩ F.entry_list_mul (F.args_list_mul_2 _ _) (AutoListH.list___mul___list_int_3 l its.toArray n k t hfit afi adg) ⟨e,?_⟩⟩)
 rw[hnew]
 exact⟨.ref _,_,I.Xm (t':=s.toks) (r.rep k.toNat) (by rw[len_rep,Nat.mul_comm]; exact hz),rfl,q _ I.fresh⟩
end
section
variable {prog:Program} {w:World} {A:Around} {E:Value->Shared->Prop} {s:Shared}
end
section
variable {X:Cx}
end
end L2
namespace Att
open PySem PySem.W PySem.Calls PyProof.Rows
theorem uR {P:Params} {h:Heap}:∀(ns:List Int) (vs:List Value),WellAll P h vs (ns.map WData.int)->IntsAre vs ns:=by
 intro ns
 induction ns with
 | nil=>
  intro vs w
  rw[List.map_nil] at w
  cases w
  exact .nil
 | cons n ns ih=>
  intro vs w
  rw[q_] at w
  cases w with
  | cons a b=>
   cases a
   exact .cons _ _ (ih _ b)
theorem Pb {l:OpenLaw} {n:Nat} (hn:l.most=some n) {P:Params} {h:Heap} {args:List WData} {vals:List Value}
  (hpre:l.row.toRowW.claim.pre args=true) (hwl:WellAll P h vals args) :
  ∃a vs ns,vals=[Value.ref a]/\args=[WData.list (ns.map WData.int)]/\h.get? a=some { cls:=.type "list",data:=.seq vs.toArray }/\IntsAre vs ns/\ns.length<=n:=by
 have hsh:WShape.hasAll [] args [.list .int]=true:=(pre_splitW hpre).1
 have hc:l.pre.holds [] { args:=args }=true:=(pre_splitW hpre).2
 obtain⟨d,r,rfl,h1,h2⟩:=hasAllW_cons hsh
 obtain rfl:=hasAllW_nil h2
 obtain⟨xs,rfl,h3⟩:=hasW_list h1
 obtain⟨ns,rfl⟩:=items_int h3
 have hlen:ns.length<=n:=by
  unfold OpenLaw.pre at hc
  have h4:(WTm.not (.lt (.lit (.int (n:Int))) (.len (.arg 0)))).holds [] { args:=[.list (ns.map .int)] }=true:=by
   have h4:=(holds_andW hc).1
   rw[hn] at h4
   exact h4
  have h5:=condW_of h4 (w_not (w_lt w_lit (w_len_list (w_arg rfl))))
  rw[bM] at h5
  refine Nat.le_of_not_lt fun q=>?_
  have q':(n:Int)<((ns.length:Nat):Int):=by omega
  first
   | (rw[h_ q'] at h5; exact absurd h5 (by decide))
   | (simp at h5; omega)
 cases hwl with
 | cons w1 w2=>
  cases w2
  cases w1 with
  | list ho hall=>exact⟨_,_,ns,rfl,rfl,ho,uR ns _ hall,hlen⟩
theorem PQ (l:OpenLaw) (args:List WData):l.row.toRowW.claim.post args (.bool true) args=true:=
 postW_of (r:=l.row.toRowW) (X:=(true==true))
  (show WShape.has [] (.bool true) .bool=true by first | rfl | decide | simp[WShape.has,WShape.arms,WShape.armsAll])
  (show(WTm.eq .res (.lit (.bool true))).value [] { args:=args,res:=some (.bool true),after:=args }=some (.bool (true==true)) from w_eq_bool (w_res rfl) w_lit) rfl
theorem Ij {l:OpenLaw} {n:Nat} {q:Program} {loose:List Str} {XP:(Str->Option Value)->Heap->Prop} {YP:World->Heap->Prop} {d:DefRec}
  (hn:l.most=some n) (hdf:d.params.defaults=[])
  (call:∀(w:World) (s₀ s₁:Shared) (mg mb:Str->Option Value) (fa:Addr) (o:Obj) (pm cd doc:Value) (a:Addr) (vs:List Value) (ns:List Int),
   Ground q loose [] XP w s₀ mg mb s₁.heap->YP w s₁.heap ->
   s₁.heap.get? fa=some o->o.data=.func (docDef d.name d.params d.body d.scope pm cd doc)->s₁.heap.CodeRec cd d.name->mg d.name=some (.ref fa) ->
   s₁.heap.get? a=some { cls:=.type "list",data:=.seq vs.toArray }->IntsAre vs ns->ns.length<=n->s₁.gens = #[] ->
   codeAny (model l.prog w) callerA (.call (.ref fa) ⟨[.ref a],[]⟩) (fun r s'=>r=.ok (.ret (.bool true))/\OldK s₁.heap s'.heap/\s'.os=s₁.os/\AllBare s'.gens) s₁) :
  WalkO q loose XP YP l.row.toRowW d [] (fun f vs=>PySem.call f vs):=by
 intro w s₀ s₁ mg mb G Y fa o pm cd doc dV kV ho hd hcd hD hmg hg args vals as hpre hlay hrd hwl hlo
 obtain rfl:dV=.none:=Dflts.none hD hdf
 obtain rfl:kV=.none:=Dflts.noKw hD
 obtain⟨a,vs,ns,rfl,rfl,hobj,hints,hlen⟩:=Pb hn hpre hwl
 refine enter_call (codeAny_mono (call w s₀ s₁ mg mb fa o pm cd doc a vs ns G Y ho (fd_plain hd) hcd hmg hobj hints hlen hg) fun r s' hq=>?_)
 obtain⟨rfl,h2,h3,h4⟩:=hq
 exact⟨.inl ⟨.bool true,.bool true,[],rfl,fun _=>rfl,.bool true,PQ l _,fun _=>⟨List.Pairwise.nil,fun _ hm=>(nomatch hm)⟩⟩,h2,h3,h4⟩
section
variable {prog:Program} {w:World} {A:Around} {E:Value->Shared->Prop} {s:Shared} {K:Frag}
noncomputable def ledger (h:Heap) (L d:Addr):List (Addr×Obj):=(List.range h.objs.size).filterMap fun a=>if a=L\/a=d then none else(h.get? a).map fun o=>(a,o)
end
end Att
namespace L2
open PySem PySem.Spec PyProof.Rows
theorem z_:∀{vs:List Value} {ns:List Int},IntsAre vs ns->Vals (ns.map V.int) vs
 | _,_,.nil=>.nil
 | _,_,.cons n t h=>.cons ⟨t,rfl⟩ (z_ h)
noncomputable def Only (H:Hp):Prop:=∀b,H b=none\/∃o xs,H b=some (.Fl o (.lst xs))
theorem Ur {P:Program} {w:World} {K:PySem.W.Frag} {mg mb:Str->Option Value} {CX:Ox} {k:Nat} {fa a:Addr} {fd:FuncData} {x:Str} {sp:Sp} {s₁:Shared} {vs:List Value} {ns:List Int}
  (KX:K.In s₁.heap) (hns:s₁.heap.Ns mainGlobals mg) (hb:s₁.heap.Ns builtinsNs mb) (hbb:∀x:Str,x ≠ "__name__" -> mb x=bootBuiltins x) (hlim:s₁.heap.NoLimit) (hg:s₁.gens = #[])
  (ha:s₁.heap.get? a=some { cls:=.type "list",data:=.seq vs.toArray }) (hi:IntsAre vs ns) (hl:ns.length<=sizeLine) (hr:jb k callerA)
  (F:∀base:Heap,K.In base->base.Ns mainGlobals mg->bZ P w K mg base CX k fa fd [x] sp) (hbind:∀(s:Shared) (u:Value),BindsTo s fd ⟨[u],[]⟩ [(x,u)])
  (hsp:∀H:Hp,Only H->dh K H a (ns.map V.int)->sp [.ref a] H (fun v _=>v=.bl true) fun _ _ _=>False)
  (hCX:∀H e s',CX [] H s₁ (fun _ _ _=>False) e s'->False) :
  codeAny (model P w) callerA (.call (.ref fa) ⟨[.ref a],[]⟩) (fun r s'=>r=.ok (.ret (.bool true))/\OldK s₁.heap s'.heap/\s'.os=s₁.os/\AllBare s'.gens) s₁:=by
 have rv:=z_ hi
 have lenV:=hi.length
 have core:∀H:Hp,Only H->dh K H a (ns.map V.int)->lZ P w H s₁.heap->(∀b,H b≠none->b=a)->(H a≠none->K.lookup a=none) ->
   codeAny (model P w) callerA (.call (.ref fa) ⟨[.ref a],[]⟩) (fun r s'=>r=.ok (.ret (.bool true))/\OldK s₁.heap s'.heap/\s'.os=s₁.os/\AllBare s'.gens) s₁:=by
  intro H hO hS hok hA hK
  have Om:∀{b:Addr} {o:Obj},s₁.heap.get? b=some o->H b=none->(D_ s₁.heap H).get? b=some o:=fun e n=>UL e n
  have noA:∀{b:Addr} {o:Obj} {es:Array DictEntry} {ep:Nat},s₁.heap.get? b=some o->o.data=.dict es ep->H b=none:=fun {b o es ep} e d=>by
   cases q:H b with
   | none=>rfl
   | some u=>
    have e':b=a:=hA b (by rw[q]; simp)
    subst e'
    rw[ha] at e; cases e
    have d':Data.seq vs.toArray _=Data.dict es ep:=d
    cases d'
  have nsK:∀{b:Addr} {m:Str->Option Value},s₁.heap.Ns b m->(D_ s₁.heap H).Ns b m:=fun {b m} ⟨o,es,ep,e,d,r⟩=>⟨o,es,ep,Om e (noA e d),d,r⟩
  have hKb:K.In (D_ s₁.heap H):=fun b o e=>Om (KX b o e) (by
   cases q:H b with
   | none=>rfl
   | some u=>
    have e':b=a:=hA b (by rw[q]; simp)
    subst e'
    rw[hK (by rw[q]; simp)] at e; cases e)
  have hM:Mod K mg (D_ s₁.heap H):=⟨hKb,nsK hns,⟨mb,nsK hb,hbb⟩,let ⟨mc,h1,h2⟩:=hlim; ⟨mc,nsK h1,h2⟩⟩
  have e0:Yh P w K mg (D_ s₁.heap H) callerA [] s₁ H:=⟨rfl,hM,fun b o e=>W9 e,Nat.le_of_eq (QF _ _),trivial,fun b hb=>absurd (show b∈([]:List Addr) from hb) (by simp),hok,.of_eq hg⟩
  refine codeAny_mono ((F _ hKb (nsK hns)).run callerA [] s₁ H ⟨[.ref a],[]⟩ [.ref a] [.ref a] _ _ hr e0 (hbind s₁ (.ref a)) (.cons rfl .nil) (hsp H hO hS)) fun r s' h=>?_
  cases r with
  | error e=>exact(hCX H e s' h).elim
  | ok fl=>
   cases fl with
   | next=>exact False.elim h
   | brk=>exact False.elim h
   | cont=>exact False.elim h
   | ret u=>
    obtain⟨v,H',os,bare,un,hok',r',q⟩:=h
    have q':v=.bl true:=q
    subst q'
    obtain rfl:u=Value.bool true:=r'
    refine⟨rfl,OldK.of_keep fun b o e=>?_,os,bare⟩
    cases q:H b with
    | none=>exact un.keep b o e q (by intro z; exact absurd (show b∈([]:List Addr) from z) (by simp)) (by simp)
    | some u=>
     rcases hO b with z | ⟨ob,xs,z⟩
     ·rw[q] at z; cases z
     ·have z2:=un.yf b ob _ z
      obtain⟨e1,_⟩:=hok b _ z
      obtain⟨e2,_⟩:=hok' b _ z2
      rw[e] at e1; cases e1
      exact e2
 cases hk:K.lookup a with
 | some o=>
  have e:=KX a o hk
  rw[ha] at e
  cases e
  refine core (fun _=>none) (fun _=>.inl rfl) (.inr ⟨_,vs.toArray,_,hk,rfl,rfl,rfl,by rw[gA,lenV]; exact hl,by simpa using rv⟩) (fun b u z=>by have z':(none:Option HO)=some u:=z; cases z') (fun b z=>absurd rfl z) fun z=>absurd rfl z
 | none=>
  refine core (fun b=>if b=a then some (.Fl { cls:=.type "list",data:=.seq vs.toArray } (.lst (ns.map V.int))) else none) (fun b=>?_) (.inl (.inr ⟨{ cls:=.type "list",data:=.seq vs.toArray },aP rfl⟩)) (fun b u z=>?_) (fun b z=>?_) fun _=>hk
  ·by_cases hb:b=a
   ·exact .inr ⟨_,_,aP hb⟩
   ·exact .inl (bB hb)
  ·by_cases hb:b=a
   ·have z':=(aP hb).symm.trans z
    cases z'
    subst hb
    exact⟨ha,by rw[bM]; exact hl,vs,_,rv,ha⟩
   ·have z':=(bB hb).symm.trans z
    cases z'
  ·by_cases hb:b=a
   ·exact hb
   ·exact absurd (bB hb) z
noncomputable abbrev KOf {K:PySem.W.Frag} {h:Heap} (_:K.In h):PySem.W.Frag:=K
theorem V8 {l:PySem.W.OpenLaw} {n k:Nat} {q:Program} {loose:List Str} {XP:(Str->Option Value)->Heap->Prop} {YP:World->Heap->Prop} {d:DefRec} {K:Params->PySem.W.Frag} {CX:World->Ox} {sp:World->Sp} {x:Str}
  (hn:l.most=some n) (hn2:n<=sizeLine) (hdf:d.params.defaults=[]) (hr:jb k callerA)
  (hY:∀(w:World) (h:Heap),YP w h->(K w.params).In h)
  (F:∀(w:World) (mg:Str->Option Value) (fa:Addr) (h:Heap),(K w.params).In h->h.Ns mainGlobals mg->mg d.name=some (.ref fa) ->
   ∃fd:FuncData,(∀(s:Shared) (u:Value),BindsTo s fd ⟨[u],[]⟩ [(x,u)]) /\
    ∀base:Heap,(K w.params).In base->base.Ns mainGlobals mg->bZ l.prog w (K w.params) mg base (CX w) k fa fd [x] (sp w))
  (hsp:∀(w:World) (H:Hp) (a:Addr) (ns:List Int),ns.length<=n->Only H->dh (K w.params) H a (ns.map V.int)->sp w [.ref a] H (fun v _=>v=.bl true) fun _ _ _=>False)
  (hCX:∀(w:World) (H:Hp) (s:Shared) (e:Value) (s':Shared),CX w [] H s (fun _ _ _=>False) e s'->False) :
  PySem.W.WalkO q loose XP YP l.row.toRowW d [] (fun f vs=>PySem.call f vs):=by
 refine Att.Ij hn hdf fun w s₀ s₁ mg mb fa o pm cd doc a vs ns G Y ho hd hcd hmg hobj hints hlen hg=>?_
 have KX:=hY w _ Y
 obtain⟨fd,hb,hF⟩:=F w mg fa _ KX G.T.g hmg
 exact Ur KX G.T.g G.T.b G.T.builtins G.T.nolimit hg hobj hints (n_ hlen hn2) hr hF hb (fun H hO hS=>hsp w H a ns hlen hO hS) fun H e s'=>hCX w H s₁ e s'
end L2
namespace L2
open PySem PySem.Spec PyProof.Rows
noncomputable def fM (s:Stmt):Arguments:=match s with
 | .FunctionDef _ a _ _ _ _ _ _ _ _=>a
 | _=>{ posonlyargs:=[],args:=[],vararg:=none,kwonlyargs:=[],kw_defaults:=[],kwarg:=none,defaults:=[] }
noncomputable def dI (s:Stmt):List Stmt:=match s with
 | .FunctionDef _ _ b _ _ _ _ _ _ _=>b
 | _=>[]
noncomputable def aK (s:Stmt):Scope:=match s with
 | .FunctionDef _ _ _ _ _ _ sc _ _ _=>sc
 | _=>{ kind:=.function,names:=[],isGenerator:=false,isCoroutine:=false }
noncomputable abbrev jj:Ox:=fun _ _ _ _ _ _=>False
noncomputable abbrev E0:XK:=fun _ _ _=>False
theorem YT {X:Cx}:Passes jj X E0:=fun _ _ _ _ _ _ _ h=>h.elim
structure jr (K:PySem.W.Frag) (x qual:Str) (st:Stmt) (f:Addr) (fd:FuncData):Prop where
 ex:∃(oc:Value) (od:Option Addr) (kV doc pm:Value) (an:Option Addr) (cdv ct:Value) (osl:Array (Option Value)),
  fd=PySem.W.fnOf x qual (fM st) (dI st) (aK st) .none kV doc pm an cdv ct/\K.lookup f=some ⟨oc,od,.func fd,osl⟩/\PySem.W.codeIn K cdv qual=true
 kp:PySem.W.keepIn K (.ref f)=true
section
variable {P:Program} {w:World} {K:PySem.W.Frag} {mg:Str->Option Value} {base:Heap}
theorem jr.ok {x qual:Str} {st:Stmt} {f:Addr} {fd:FuncData} {N ps:List Str} {k:Nat} {sp:Sp} (F:jr K x qual st f fd) (S:bf N ps (aK st)) (len:∀vs H Q E,sp vs H Q E->vs.length=ps.length)
  (hbody:∀(cdv:Value) (A:Around) (outer:List Env) (s:Shared) (H:Hp) (vs:List V) (Q:VK) (E:XK),jb k (A.deeper (envOfC qual (aK st) s.heap.objs.size f cdv))->sp vs H Q E ->
   ∃t,zV (ig jj P w K mg base N qual (aK st) f cdv A outer s H E).nox (dI st) t/\t { nx:=fun _ H'=>Q .non H',rt:=Q } (start N vs) H):bZ P w K mg base jj (k+1) f fd ps sp:=by
 obtain⟨oc,od,kV,doc,pm,an,cdv,ct,osl,rfl,lk,hcd⟩:=F.ex
 refine Y_ lk hcd S len fun A outer s H vs Q E hr hsp=>?_
 obtain⟨t,h,q⟩:=hbody cdv A outer s H vs Q E hr hsp
 exact⟨t,h.nox,q⟩
theorem jr.binds {x qual:Str} {st:Stmt} {f:Addr} {fd:FuncData} {ps:List Str} (F:jr K x qual st f fd)
  (h:∀(kV doc pm:Value) (an:Option Addr) (cdv ct:Value) (us:List Value),us.length=ps.length->bindArgs (PySem.W.fnOf x qual (fM st) (dI st) (aK st) .none kV doc pm an cdv ct) ⟨us,[]⟩=pure (ps.zip us)):Binds K fd ps []:=by
 obtain⟨oc,od,kV,doc,pm,an,cdv,ct,osl,rfl,lk,hcd⟩:=F.ex
 exact .all (h kV doc pm an cdv ct)
theorem U4 {x qual:Str} {st:Stmt} {f:Addr} {oc:Value} {od an:Option Addr} {osl:Array (Option Value)} {kV doc pm cdv ct:Value} (l:K.lookup f=some ⟨oc,od,.func (PySem.W.fnOf x qual (fM st) (dI st) (aK st) .none kV doc pm an cdv ct),osl⟩)
  (c:PySem.W.codeIn K cdv qual=true) (k:PySem.W.keepIn K (.ref f)=true):jr K x qual st f (PySem.W.fnOf x qual (fM st) (dI st) (aK st) .none kV doc pm an cdv ct):=⟨⟨oc,od,kV,doc,pm,an,cdv,ct,osl,rfl,l,c⟩,k⟩
end
theorem bu {n:Nat} (h:n<=1000):n<sizeLine:=Nat.lt_of_le_of_lt h (by decide)
section
variable {X:Cx}
theorem pv (i:Nat) {x:Str} {pos:Pos} (hN:X.N[i]?=some x:=by rfl) (hv:Vis X.env.scope x:=by first | exact Or.inl rfl | exact Or.inr (Or.inl rfl) | exact Or.inr (Or.inr rfl)) (hd:(x==("__debug__" : Str))=false:=by decide)
  (hcd:(x==("__classdict__" : Str))=false:=by decide):PE X (.Name x pos) (uM i):=aak hN hv hd hcd
end
noncomputable def aG (H H':Hp):Prop:=∀b o,H b=some o->H' b=some o
theorem aG.refl (H:Hp):aG H H:=fun _ _ h=>h
theorem aG.trans {H H1 H2:Hp} (a:aG H H1) (b:aG H1 H2):aG H H2:=fun c o h=>b c o (a c o h)
theorem aG.free {H H':Hp} (e:aG H H') {l:Addr} (h:H' l=Option.none):H l=Option.none:=by
 cases q:H l with
 | none=>rfl
 | some o=>
  rw[e l o q] at h
  cases h
section
variable {κ:Type} [DecidableEq κ]
noncomputable def j9 (kvs:List (κ×V)) (k:κ):Option V:=(kvs.find? fun kv=>decide (kv.1=k)).map (·.2)
noncomputable def putK (kvs:List (κ×V)) (k:κ) (v:V):List (κ×V):=
 if(kvs.any fun kv=>decide (kv.1=k))=true then kvs.map (fun kv=>if kv.1=k then(kv.1,v) else kv) else kvs++[(k,v)]
theorem gm {p:κ×V} {r:List (κ×V)} {k:κ} (e:p.1=k):j9 (p::r) k=some p.2:=by simp[j9,List.find?_cons,e]
theorem gq {p:κ×V} {r:List (κ×V)} {k:κ} (e:¬p.1=k):j9 (p::r) k=j9 r k:=by simp[j9,List.find?_cons,e]
theorem qK (k:κ):∀kvs:List (κ×V),(kvs.any fun kv=>decide (kv.1=k))=(j9 kvs k).isSome
 | []=>rfl
 | p::r=>by
  rw[List.any_cons]
  by_cases e:p.1=k
  ·simp only[gm e,h_ e,Bool.true_or,Option.isSome_some]
  ·rw[gq e,ju e,Bool.false_or]; exact qK k r
theorem Fz (k j:κ) (y:V):∀kvs:List (κ×V),j9 (kvs.map fun kv=>if kv.1=k then(kv.1,y) else kv) j=(j9 kvs j).map fun x=>if j=k then y else x
 | []=>rfl
 | p::r=>by
  have ih:=Fz k j y r
  rw[q_]
  by_cases h:p.1=k
  ·rw[aP h]
   by_cases e:p.1=j
   ·rw[gm (p:=(p.1,y)) e,gm e,A_,aP (e.symm.trans h)]
   ·rw[gq (p:=(p.1,y)) e,gq e,ih]
  ·rw[bB h]
   by_cases e:p.1=j
   ·rw[gm (p:=p) e,gm e,A_,bB (fun z=>h (e.trans z))]
   ·rw[gq (p:=p) e,gq e,ih]
theorem Ab (k j:κ) (y:V):∀kvs:List (κ×V),j9 kvs k=none->j9 (kvs++[(k,y)]) j=if j=k then some y else j9 kvs j
 | [],_=>by
  by_cases e:k=j
  ·rw[aP e.symm]; exact gm (p:=(k,y)) e
  ·rw[bB (fun z=>e z.symm)]; exact gq (p:=(k,y)) e
 | p::r,hn=>by
  rw[Mh]
  have hk:¬p.1=k:=fun z=>by rw[gm z] at hn; cases hn
  rw[gq hk] at hn
  have ih:=Ab k j y r hn
  by_cases e:p.1=j
  ·rw[gm e,gm e,bB (fun z=>hk (e.trans z))]
  ·rw[gq e,gq e,ih]
theorem Fy (kvs:List (κ×V)) (k j:κ) (y:V):j9 (putK kvs k y) j=if j=k then some y else j9 kvs j:=by
 unfold putK
 by_cases a:(kvs.any fun kv=>decide (kv.1=k))=true
 ·rw[aP a,Fz]
  rw[qK] at a
  by_cases e:j=k
  ·obtain⟨x,hx⟩:=zf.mp a
   rw[aP e,e,hx,A_,aP rfl]
  ·rw[bB e]
   cases j9 kvs j with
   | none=>rfl
   | some x=>rw[A_,bB e]
 ·rw[bB a]
  refine Ab k j y kvs ?_
  rw[qK] at a
  cases q:j9 kvs k with
  | none=>rfl
  | some x=>rw[q] at a; exact(a rfl).elim
theorem Ra.Bo {o:Option V} {u:Option Value} (r:Ra o u):o.isSome=u.isSome:=by
 cases o with
 | none=>cases u with
  | none=>rfl
  | some _=>exact(show False from r).elim
 | some _=>cases u with
  | none=>exact(show False from r).elim
  | some _=>rfl
end
section
variable {P:Program} {w:World} {H:Hp} {h:Heap} {a:Addr}
end
section
variable {X:Cx} {pins:List (Addr×Obj)} {σ:St} {H:Hp} {s:Shared} {a:Addr} {y v:V} {u r:Value} {o:Option V} {A:Around} {E:Value->Shared->Prop}
theorem Inv.big (I:Inv X pins σ H s):sysModules<s.heap.objs.size:=by
 have h:mainGlobals<s.heap.objs.size:=(I.mod.glob.keeps I.bk).lt
 exact GC (by decide) h
end
section
variable {X:Cx} {pins:List (Addr×Obj)} {σ:St} {H:Hp} {s:Shared} {a:Addr} {kvs:List (Key×V)} {k:Key} {u:Value} {A:Around} {E:Value->Shared->Prop}
end
section
variable {X:Cx} {o i e value:Expr} {pos pos' tpos:Pos} {td ty tv:TE}
end
section
variable {X:Cx} {pos:Pos}
end
noncomputable def R0:List (TE×TE)->St->Hp->(List (V×V)->Hp->Prop)->Prop
 | [],_,H,Q=>Q [] H
 | (tk,tv)::r,σ,H,Q=>tk σ H fun x H1=>tv σ H1 fun y H2=>R0 r σ H2 fun ps H3=>Q ((x,y)::ps) H3
noncomputable abbrev VV:List (V×V)->List (Value×Value)->Prop:=Paired fun p q=>RelV p.1 q.1/\RelV p.2 q.2
noncomputable def PPs (X:Cx) (pos:Pos) (keys:List (Option Expr)) (values:List Expr) (cI:List (TE×TE)):Prop:=
 ∀(pins:List (Addr×Obj)) (s:Shared) (σ:St) (H:Hp) (Q:List (V×V)->Hp->Prop),Inv X pins σ H s->R0 cI σ H Q ->
  wpAny (model X.prog X.w) X.A (evalPairs (pairTrees keys values X.env pos)) (fun vs s'=>∃ps H',Inv X pins σ H' s'/\VV ps vs/\Q ps H') X.xe s
theorem WR {X:Cx} {pos:Pos}:PPs X pos [] [] []:=fun pins s σ H Q I h=>pairTrees_nil_walk ⟨[],H,I,.nil,h⟩
theorem Tu {X:Cx} {pos:Pos} {k v:Expr} {ks:List (Option Expr)} {vs:List Expr} {tk tv:TE} {cI:List (TE×TE)} (hk:PE X k tk) (hv:PE X v tv) (hr:PPs X pos ks vs cI) :
  PPs X pos (some k::ks) (v::vs) ((tk,tv)::cI):=fun pins s σ H Q I h=>by
 refine pairTrees_cons_walk (cT (hk pins s σ H _ I h) fun u s1 qx=>?_)
 obtain⟨x,H1,I1,rx,q1⟩:=qx
 refine cT (hv pins s1 σ H1 _ I1 q1) fun w2 s2 qx=>?_
 obtain⟨y,H2,I2,ry,q2⟩:=qx
 refine cT (hr pins s2 σ H2 _ I2 q2) fun ws s3 qx=>?_
 obtain⟨ps,H3,I3,rel,q3⟩:=qx
 exact⟨(x,y)::ps,H3,I3,.cons ⟨rx,ry⟩ rel,q3⟩
structure M1 (X:Cx) (o:Expr) (m:Str) (apos:Pos) (e:Expr) (cpos:Pos):Prop where
 base:attributeBase o m X.env (eval o X.env)=eval o X.env
 few:((backTo cpos (starEach [e] X.env)).all (fun x=>!x.1)&&(backToKw cpos (keywordEach [] X.env)).all (fun x=>x.1.isSome)
  && decide (([e]:List Expr).length+([]:List Keyword).length+(if([]:List Keyword).isEmpty then 0 else 1)<30))=true
 line:(apos.endLine==cpos.line)=true
 trees:backTo cpos (starEach [e] X.env)=[(false,eval e X.env)]
structure M2 (X:Cx) (o:Expr) (m:Str) (apos:Pos) (e f:Expr) (cpos:Pos):Prop where
 base:attributeBase o m X.env (eval o X.env)=eval o X.env
 few:((backTo cpos (starEach [e,f] X.env)).all (fun x=>!x.1)&&(backToKw cpos (keywordEach [] X.env)).all (fun x=>x.1.isSome)
  && decide (([e,f]:List Expr).length+([]:List Keyword).length+(if([]:List Keyword).isEmpty then 0 else 1)<30))=true
 line:(apos.endLine==cpos.line)=true
 trees:backTo cpos (starEach [e,f] X.env)=[(false,eval e X.env),(false,eval f X.env)]
section
variable {X:Cx} {pins:List (Addr×Obj)} {σ:St} {H:Hp} {s:Shared} {a:Addr} {y d:V} {u r:Value} {o:Option V} {A:Around} {E:Value->Shared->Prop}
end
section
variable {X:Cx} {o e f:Expr} {apos cpos:Pos} {td ty tx:TE}
end
section
variable {X:Cx} {pins:List (Addr×Obj)} {σ:St} {H:Hp} {s:Shared} {a:Addr} {kvs:List (Key×V)} {A:Around} {E:Value->Shared->Prop}
end
section
variable {X:Cx} {pins:List (Addr×Obj)} {σ:St} {H:Hp} {s:Shared} {a:Addr} {y:V} {u:Value} {A:Around} {E:Value->Shared->Prop}
end
end L2
set_option maxHeartbeats 4000000
namespace L2
open PySem PySem.Spec PyProof.Rows
noncomputable def jQ (env:Env) (cs:List (Str×Addr)) (y:Str×NameKind):List (Str×Addr):=
 if y.2==.free then(match env.cells.lookup y.1 with | some c=>(y.1,c)::cs | none=>cs) else cs
noncomputable def qw (sc:Scope) (env:Env):List (Str×Addr):=sc.names.foldl (jQ env) []
theorem HS {env:Env}:∀(ns:List (Str×NameKind)) (acc:List (Str×Addr)),(∀y c,acc.lookup y=some c->env.cells.lookup y=some c)->∀y c,(ns.foldl (jQ env) acc).lookup y=some c->env.cells.lookup y=some c
 | [],acc,h,y,c,e=>h y c e
 | n::ns,acc,h,y,c,e=>by
  refine HS ns (jQ env acc n) (fun z d q=>?_) y c e
  unfold jQ at q
  split at q
  ·split at q
   ·rename_i c' hc'
    rw[tO] at q
    split at q
    ·rename_i hz
     have hz':z=n.1:=by simpa using hz
     cases q
     rw[hz']; exact hc'
    ·exact h z d q
   ·exact h z d q
  ·exact h z d q
theorem iZ {sc:Scope} {env:Env} {y:Str} {c:Addr} (e:(qw sc env).lookup y=some c):env.cells.lookup y=some c:=
 HS sc.names [] (fun _ _ q=>by simp at q) y c e
theorem Oh {env:Env} {y:Str} {c:Addr} (hc:env.cells.lookup y=some c):∀(ns:List (Str×NameKind)) (acc:List (Str×Addr)),acc.lookup y=some c->(ns.foldl (jQ env) acc).lookup y=some c
 | [],acc,h=>h
 | n::ns,acc,h=>by
  refine Oh hc ns (jQ env acc n) ?_
  unfold jQ
  split
  ·split
   ·rename_i c' hc'
    rw[tO]
    split
    ·rename_i hz
     have hz':y=n.1:=by simpa using hz
     rw[<- hz',hc] at hc'
     exact hc'.symm
    ·exact h
   ·exact h
  ·exact h
theorem KC {env:Env} {y:Str} {c:Addr} (hc:env.cells.lookup y=some c):∀(ns:List (Str×NameKind)) (acc:List (Str×Addr)),(y,NameKind.free)∈ns->(ns.foldl (jQ env) acc).lookup y=some c
 | [],_,h=>by simp at h
 | n::ns,acc,h=>by
  rcases bU.mp h with e | h
  ·subst e
   refine Oh hc ns _ ?_
   unfold jQ
   simp[hc]
  ·exact KC hc ns _ h
theorem uA {sc:Scope} {env:Env} {x:Str} {k':NameKind} (h:(relabel sc env).names.lookup x=some k'):∃k,(x,k)∈sc.names/\(k'=k\/(k=.free/\k'=.cell)):=by
 have m:=PySem.mem_of_lookup h
 unfold relabel at m
 obtain⟨⟨n,k⟩,hm,e⟩:=iK.mp m
 dsimp only at e
 split at e
 ·rename_i hc
  injection e with e1 e2
  subst e1
  refine⟨k,hm,.inr ⟨?_,e2.symm⟩⟩
  have:(k==NameKind.free)=true:=by
   cases hk:(k==NameKind.free) with
   | true=>rfl
   | false=>rw[hk] at hc; simp at hc
  exact beq_iff_eq.mp this
 ·injection e with e1 e2
  subst e1 e2
  exact⟨k,hm,.inl rfl⟩
theorem qZ {env:Env} {x:Str} (hf:env.scope.kind=.function) (hk:env.kindOf x=some .cell):∀(ns:List (Str×NameKind)),ns.lookup x=some .free ->
  (ns.map fun(y:Str×NameKind)=>if(y.2==.free&&env.scope.kind==.function&&env.kindOf y.1==some .cell) then(y.1,NameKind.cell) else(y.1,y.2)).lookup x=some .cell
 | [],h=>by simp at h
 | (n,k)::r,h=>by
  have ih:=qZ hf hk r
  rw[q_]
  cases hx:x==n with
  | true=>
   have e:x=n:=by simpa using hx
   subst e
   simp only[tO,beq_self_eq_true] at h
   cases h
   dsimp only
   rw[aP (by simp[hf,hk])]
   simp[tO]
  | false=>
   simp only[tO,hx] at h
   dsimp only
   split
   ·simp only[tO,hx]; exact ih h
   ·simp only[tO,hx]; exact ih h
noncomputable def qp (X:Cx) (N':List Str) (sc:Scope) (fp:List Addr) (s:Shared) (H:Hp):Cx where
 prog:=X.prog
 w:=X.w
 K:=X.K
 mg:=X.mg
 base:=X.base
 A:=X.A
 N:=N'
 s₀:=s
 H₀:=H
 env:=compEnvC sc (qw sc X.env) s.heap.objs.size X.env
 outer:=X.stack
 stack:=X.stack
 ex:=fp
 fn:=fun _=>false
 calm:=X.calm
 pn:=[]
 xe:=fun _ _=>False
structure yP (X:Cx) (N':List Str) (js:List Nat) (sc:Scope):Prop where
 kind:sc.kind=.function
 iU:∀y∈sc.names,y.2≠.cell
 names:∀y∈sc.names,y.2=.local->sc.names.lookup y.1=some .local
 clos:closureFor sc X.env=pure (qw sc X.env)
 all:(sc.names.all fun y=>y.2 != .free || (X.env.cells.lookup y.1).isSome)=true
 len:N'.length=js.length+1
 cap:∀(i j:Nat),js[i]?=some j->N'[i+1]?=X.N[j]?
 Vk:∀y∈N'.tail,X.env.kindOf y=some .cell/\sc.names.lookup y=some .free
noncomputable def b7 (js:List Nat) (σ:St):St:=js.map fun j=>(σ[j]?).join
noncomputable def ir (js:List Nat) (wi:TI) (te:TE):TE:=fun σ H Q=>wi σ H fun J H1=>∀acc,H1 acc=none->∃W:Nat->Nat->List V->Hp->Prop,(∃m,W 0 m [] (upd H1 acc (.lst [])))/\∀i m ys H2,W i m ys H2 ->
 (J.stop i H2/\Q (.ref acc) H2)\/(J.go i H2/\∀x H3,J.vH i H2 x H3->te (some x::b7 js σ) H3 fun y H4=>H4 acc=some (.lst ys)/\ys.length<sizeLine/\∃m',m'<m/\W (i+1) m' (ys++[y]) (upd H4 acc (.lst (ys++[y]))))
noncomputable def DQ:Key->PyData
 | .inl i=>.int i
 | .inr x=>.str x
mutual
noncomputable def At (H:Hp):PyData->V->Prop
 | .none,v=>v=.non
 | .bool b,v=>v=.bl b
 | .int i,v=>v=.int i
 | .str x,v=>v=.str x
 | .tuple ds,v=>∃a xs,v=.ref a/\H a=some (.tup xs)/\ak H ds xs
 | .list ds,v=>∃a xs,v=.ref a/\H a=some (.lst xs)/\ak H ds xs
 | .dict kvs,v=>∃a es,v=.ref a/\H a=some (.dK es)/\Ff H kvs es
noncomputable def ak (H:Hp):List PyData->List V->Prop
 | [],xs=>xs=[]
 | d::ds,xs=>∃x r,xs=x::r/\At H d x/\ak H ds r
noncomputable def Ff (H:Hp):List (PyData×PyData)->List (Key×V)->Prop
 | [],es=>es=[]
 | (k,d)::r,es=>∃q v t,es=(q,v)::t/\k=DQ q/\At H d v/\Ff H r t
end
mutual
theorem At.mono {H H':Hp} (m:aG H H'):∀(d:PyData) (v:V),At H d v->At H' d v
 | .none,_,h=>by unfold At at h ⊢; exact h
 | .bool _,_,h=>by unfold At at h ⊢; exact h
 | .int _,_,h=>by unfold At at h ⊢; exact h
 | .str _,_,h=>by unfold At at h ⊢; exact h
 | .tuple ds,v,h=>by
  unfold At at h ⊢
  obtain⟨a,xs,e,h1,h2⟩:=h
  exact⟨a,xs,e,m _ _ h1,ak.mono m ds xs h2⟩
 | .list ds,v,h=>by
  unfold At at h ⊢
  obtain⟨a,xs,e,h1,h2⟩:=h
  exact⟨a,xs,e,m _ _ h1,ak.mono m ds xs h2⟩
 | .dict kvs,v,h=>by
  unfold At at h ⊢
  obtain⟨a,es,e,h1,h2⟩:=h
  exact⟨a,es,e,m _ _ h1,Ff.mono m kvs es h2⟩
theorem ak.mono {H H':Hp} (m:aG H H'):∀(ds:List PyData) (xs:List V),ak H ds xs->ak H' ds xs
 | [],_,h=>by unfold ak at h ⊢; exact h
 | d::ds,xs,h=>by
  unfold ak at h ⊢
  obtain⟨x,r,e,h1,h2⟩:=h
  exact⟨x,r,e,At.mono m d x h1,ak.mono m ds r h2⟩
theorem Ff.mono {H H':Hp} (m:aG H H'):∀(kvs:List (PyData×PyData)) (es:List (Key×V)),Ff H kvs es->Ff H' kvs es
 | [],_,h=>by unfold Ff at h ⊢; exact h
 | (k,d)::r,es,h=>by
  unfold Ff at h ⊢
  obtain⟨q,v,t,e,e',h1,h2⟩:=h
  exact⟨q,v,t,e,e',At.mono m d v h1,Ff.mono m r t h2⟩
end
theorem ak.length {H:Hp}:∀{ds:List PyData} {xs:List V},ak H ds xs->xs.length=ds.length
 | [],xs,h=>by unfold ak at h; rw[h]; rfl
 | d::ds,xs,h=>by
  unfold ak at h
  obtain⟨x,r,e,_,h2⟩:=h
  rw[e,jF,jF,ak.length h2]
theorem ak.get {H:Hp}:∀{ds:List PyData} {xs:List V} {i:Nat} {x:V},ak H ds xs->xs[i]?=some x->∃d,ds[i]?=some d/\At H d x
 | [],xs,i,x,h,e=>by unfold ak at h; rw[h] at e; simp at e
 | d::ds,xs,i,x,h,e=>by
  unfold ak at h
  obtain⟨y,r,e1,h1,h2⟩:=h
  subst e1
  cases i with
  | zero=>simp at e; subst e; exact⟨d,rfl,h1⟩
  | succ i=>
   obtain⟨d',q1,q2⟩:=ak.get (i:=i) (x:=x) h2 (by simpa using e)
   exact⟨d',by simpa using q1,q2⟩
theorem ak.getD {H:Hp}:∀{ds:List PyData} {xs:List V} {i:Nat} {d:PyData},ak H ds xs->ds[i]?=some d->∃x,xs[i]?=some x/\At H d x
 | [],xs,i,d,h,e=>by simp at e
 | d'::ds,xs,i,d,h,e=>by
  unfold ak at h
  obtain⟨y,r,e1,h1,h2⟩:=h
  subst e1
  cases i with
  | zero=>simp at e; subst e; exact⟨y,rfl,h1⟩
  | succ i=>
   obtain⟨x,q1,q2⟩:=ak.getD (i:=i) (d:=d) h2 (by simpa using e)
   exact⟨x,by simpa using q1,q2⟩
theorem ak.append {H:Hp}:∀{ds es:List PyData} {xs ys:List V},ak H ds xs->ak H es ys->ak H (ds++es) (xs++ys)
 | [],es,xs,ys,h,q=>by unfold ak at h; subst h; exact q
 | d::ds,es,xs,ys,h,q=>by
  unfold ak at h
  obtain⟨x,r,e,h1,h2⟩:=h
  subst e
  show ak H (d::(ds++es)) (x::(r++ys))
  unfold ak
  exact⟨x,r++ys,rfl,h1,ak.append h2 q⟩
theorem ak.take {H:Hp}:∀{ds:List PyData} {xs:List V} (n:Nat),ak H ds xs->ak H (ds.take n) (xs.take n)
 | ds,xs,0,h=>by simp[ak]
 | [],xs,n+1,h=>by unfold ak at h; subst h; simp[ak]
 | d::ds,xs,n+1,h=>by
  unfold ak at h
  obtain⟨x,r,e,h1,h2⟩:=h
  subst e
  show ak H (d::ds.take n) (x::r.take n)
  unfold ak
  exact⟨x,_,rfl,h1,ak.take n h2⟩
theorem ak.nil {H:Hp}:ak H [] []:=by unfold ak; rfl
theorem ak.cons {H:Hp} {d:PyData} {ds:List PyData} {x:V} {xs:List V} (h1:At H d x) (h2:ak H ds xs):ak H (d::ds) (x::xs):=by
 unfold ak; exact⟨x,xs,rfl,h1,h2⟩
theorem At.tup {H:Hp} {a:Addr} {xs:List V} {ds:List PyData} (h:H a=some (.tup xs)) (q:ak H ds xs):At H (.tuple ds) (.ref a):=by
 unfold At; exact⟨a,xs,rfl,h,q⟩
theorem At.lst {H:Hp} {a:Addr} {xs:List V} {ds:List PyData} (h:H a=some (.lst xs)) (q:ak H ds xs):At H (.list ds) (.ref a):=by
 unfold At; exact⟨a,xs,rfl,h,q⟩
theorem At.int {H:Hp} (i:Int):At H (.int i) (.int i):=by unfold At; rfl
theorem At.str {H:Hp} (x:Str):At H (.str x) (.str x):=by unfold At; rfl
theorem At.bool {H:Hp} (b:Bool):At H (.bool b) (.bl b):=by unfold At; rfl
theorem At.non {H:Hp}:At H .none .non:=by unfold At; rfl
theorem aM {H:Hp} {p:Addr} (h:H p=none) (o:HO):aG H (upd H p o):=fun b u q=>by rw[aR (bQ q h)]; exact q
noncomputable def VF:PyData->String
 | .none=>"NoneType"
 | .bool _=>"bool"
 | .int _=>"int"
 | .str _=>"str"
 | .tuple _=>"tuple"
 | .list _=>"list"
 | .dict _=>"dict"
theorem At.ty {K:PySem.W.Frag} {H:Hp} {d:PyData} {v:V} (h:At H d v):sy K H v (.type (VF d)):=by
 cases d with
 | none=>unfold At at h; subst h; exact .non
 | bool b=>unfold At at h; subst h; exact .bl b
 | int i=>unfold At at h; subst h; exact .int i
 | str x=>unfold At at h; subst h; exact .str x
 | tuple ds=>unfold At at h; obtain⟨a,xs,e,h1,_⟩:=h; subst e; exact .tup h1
 | list ds=>unfold At at h; obtain⟨a,xs,e,h1,_⟩:=h; subst e; exact .lst h1
 | dict ds=>unfold At at h; obtain⟨a,xs,e,h1,_⟩:=h; subst e; exact .dK h1
noncomputable def isInt:PyData->Bool
 | .int _=>true
 | .bool _=>true
 | _=>false
noncomputable def isTup:PyData->Bool
 | .tuple _=>true
 | _=>false
noncomputable def isBool:PyData->Bool
 | .bool _=>true
 | _=>false
noncomputable def isStr:PyData->Bool
 | .str _=>true
 | _=>false
theorem Xy (K:PySem.W.Frag) (d:PyData):PySem.W.kitOne K (.type (VF d)) (.type "int")=some (isInt d):=by cases d <;> kernel_rfl
theorem Nk (K:PySem.W.Frag) (d:PyData):PySem.W.kitOne K (.type (VF d)) (.type "tuple")=some (isTup d):=by cases d <;> kernel_rfl
theorem Us (K:PySem.W.Frag) (d:PyData):PySem.W.kitOne K (.type (VF d)) (.type "bool")=some (isBool d):=by cases d <;> kernel_rfl
theorem Xx (K:PySem.W.Frag) (d:PyData):PySem.W.kitOne K (.type (VF d)) (.type "str")=some (isStr d):=by cases d <;> kernel_rfl
section
variable {X:Cx}
noncomputable def Ju (T:String) (f:PyData->Bool):List V->Hp->VK->Prop:=fun vs H Q=>∃v d,vs=[v,.ty T]/\At H d v/\Q (.bl (f d)) H
theorem xV {T:String} {f:PyData->Bool} (hf:∀K d,PySem.W.kitOne K (.type (VF d)) (.type T)=some (f d)):cV X (.builtin "isinstance") (Ju T f):=by
 refine .mk ?_
 intro pins s σ H vs us Q I r h
 obtain⟨v,d,rfl,hv,q⟩:=h
 obtain⟨u,t,rfl,ru,rt⟩:=r.two
 cases(show t=Value.type T from rt)
 exact QB I ru (hv.ty (K:=X.K)) (hf X.K d) fun tk=>⟨.bl (f d),H,I.tok tk,rfl,q⟩
theorem XD:cV X (.builtin "isinstance") (Ju "int" isInt):=xV Xy
theorem Nu:cV X (.builtin "isinstance") (Ju "tuple" isTup):=xV Nk
theorem HF:cV X (.builtin "isinstance") (Ju "bool" isBool):=xV Us
theorem DW:cV X (.builtin "isinstance") (Ju "str" isStr):=xV Xx
theorem Lb:∀{bs:List Bool} {us:List Value},Vals (bs.map V.bl) us->us=bs.map Value.bool
 | [],_,.nil=>rfl
 | b::bs,_,.cons r t=>by
  cases(show _=Value.bool b from r)
  rw[Lb t]; rfl
theorem range_all (bs:List Bool):(List.range bs.length).all (fun i=>bs.getD i false)=bs.all id:=by
 rw[GQ,wN,wN]
 constructor
 ·intro h b hb
  obtain⟨i,hi,rfl⟩:=List.mem_iff_getElem.mp hb
  have:=h i (Di.mpr hi)
  simpa[gC,hi] using this
 ·intro h i hi
  have hi':=Di.mp hi
  have:=h bs[i] (Jx hi')
  simpa[gC,hi'] using this
theorem Q0 (hc:X.calm=true):cV X (.builtin "all") (fun vs H Q=>∃(p:Addr) (bs:List Bool),vs=[.ref p]/\H p=some (.lst (bs.map V.bl))/\Q (.bl (bs.all id)) H):=by
 refine .mk ?_
 intro pins s σ H vs us Q I r h
 obtain⟨p,bs,rfl,hp,q⟩:=h
 obtain⟨u,rfl,ru⟩:=r.one
 cases ru
 obtain⟨z,its,n,rv,e⟩:=I.hok p _ hp
 have e2:=Lb rv
 subst e2
 have hl:s.heap.IsList p (bs.map Value.bool).toArray:=⟨_,e,rfl,n,rfl⟩
 have lt:p<s.heap.objs.size:=cC e
 refine call_all_walk (Jy hl ?_)
 refine⟨_,_,_,_,_,_,fun i=>bs.getD i false,rfl,Walks.list (A:=X.A.in1) (I.ok.hd hc) _ p (gw lt) _,⟨⟨_,dJ _ rfl,rfl,rfl⟩,hl.push _⟩,fun i v s' Q' E' hv hq=>?_,fun h' tk hk=>?_⟩
 ·have hv':(bs.map Value.bool).toArray[i]?=some v:=hv
  have:v=.bool (bs.getD i false):=by
   simp only[List.getElem?_toArray,fQ] at hv'
   cases q:bs[i]? with
   | none=>rw[q] at hv'; simp at hv'
   | some b=>rw[q] at hv'; simp at hv'; simp[gC,q,<- hv']
  rw[this]
  exact Jz hq
 ·have e3:(List.range (bs.map Value.bool).toArray.size).all (fun i=>bs.getD i false)=bs.all id:=by
   rw[gA,bM]; exact range_all bs
  refine⟨.bl (bs.all id),H,I.kept (t':=tk) (fun b o eb=>?_),by rw[<- e3]; rfl,q⟩
  exact hk b o (by simpa using gw (cC eb)) (dY _ eb)
theorem Hi:∀(ns:List Int),preSum (fun i=>ns.getD i 0) ns.length=ns.sum:=by
 have key:∀(ns:List Int) (k:Nat),k<=ns.length->preSum (fun i=>ns.getD i 0) k=(ns.take k).sum:=by
  intro ns k
  induction k with
  | zero=>intro _; rfl
  | succ k ih=>
   intro hk
   have e:ns.take (k+1)=ns.take k++[ns.getD k 0]:=by
    rw[Dj,fD (by omega)]
    simp[gC,fD (show k<ns.length by omega)]
   show preSum _ k+ns.getD k 0=_
   rw[ih (by omega),e,List.sum_append]
   simp
 intro ns
 rw[key ns ns.length (bI _),pL]
theorem Nx {ns:List Int} {its:List Value} (r:Vals (ns.map V.int) its) {i:Nat} {v:Value} (h:its.toArray[i]?=some v):∃t,v=.int (ns.getD i 0) t:=by
 have h':its[i]?=some v:=by simpa using h
 have hi:i<its.length:=(fj.mp h').1
 have hl:=r.length
 rw[bM] at hl
 obtain⟨u,hu,ru⟩:=r.get (i:=i) (x:=V.int (ns[i]'(by omega))) (by rw[fQ,fD (by omega)]; rfl)
 rw[h'] at hu
 cases hu
 obtain⟨t,e⟩:=ru
 exact⟨t,by rw[e,gC,fD (by omega)]; rfl⟩
theorem pH (hc:X.calm=true):cV X (.builtin "sum") (fun vs H Q=>∃(p:Addr) (ns:List Int),vs=[.ref p]/\(H p=some (.lst (ns.map V.int))\/H p=some (.tup (ns.map V.int)))/\Q (.int ns.sum) H):=by
 refine .mk ?_
 intro pins s σ H vs us Q I r h
 obtain⟨p,ns,rfl,hp,q⟩:=h
 obtain⟨u,rfl,ru⟩:=r.one
 cases ru
 have fin:∀{h':Heap} {tk:Nat} {t':Tok} {o:Obj},(∀b o',b∉[s.heap.objs.size]->(s.heap.push o).get? b=some o'->h'.get? b=some o')->EP X pins σ Q (.int (preSum (fun i=>ns.getD i 0) ns.length) t') { s with heap:=h',toks:=tk }:=fun {h' tk t' o} hk=>
  ⟨.int ns.sum,H,I.kept (t':=tk) (fun b o' eb=>hk b o' (by simpa using gw (cC eb)) (dY _ eb)),⟨t',by rw[Hi]⟩,q⟩
 rcases hp with hp | hp
 ·obtain⟨z,its,n,rv,e⟩:=I.hok p _ hp
  have hl:s.heap.IsList p its.toArray:=⟨_,e,rfl,n,rfl⟩
  have lt:p<s.heap.objs.size:=cC e
  have hlen:=rv.length
  rw[bM] at hlen
  refine call_sum_walkG (Jy hl ?_)
  refine⟨_,_,_,_,_,_,fun i=>ns.getD i 0,rfl,Walks.list (A:=X.A.in1) (I.ok.hd hc) _ p (gw lt) _,⟨⟨_,dJ _ rfl,rfl,rfl⟩,hl.push _⟩,fun b hb=>?_,fun i v hv=>Nx rv hv,fun h' tk t' hk=>?_⟩
  ·show b<(s.heap.push _).objs.size
   rw[jm]
   rcases bU.mp hb with rfl | hb
   ·exact G8 _
   ·rw[fH.mp hb]; exact Pn lt
  ·rw[gA,<- hlen]; exact fin hk
 ·obtain⟨z,its,rv,ht⟩:=I.hok p _ hp
  have ht':s.heap.IsTuple p its.toArray:=ht
  have lt:p<s.heap.objs.size:=by obtain⟨o,e,_⟩:=ht; exact cC e
  have hlen:=rv.length
  rw[bM] at hlen
  refine call_sum_walkG (JB ht' ?_)
  refine⟨_,_,_,_,_,_,fun i=>ns.getD i 0,rfl,Walks.tuple (A:=X.A.in1) (I.ok.hd hc) _ p (gw lt) _,⟨⟨_,dJ _ rfl,rfl,rfl⟩,?_⟩,fun b hb=>?_,fun i v hv=>Nx rv hv,fun h' tk t' hk=>?_⟩
  ·obtain⟨o,e,c⟩:=ht'
   exact⟨o,dY _ e,c⟩
  ·show b<(s.heap.push _).objs.size
   rw[jm]
   rcases bU.mp hb with rfl | hb
   ·exact G8 _
   ·rw[fH.mp hb]; exact Pn lt
  ·rw[gA,<- hlen]; exact fin hk
theorem lV:cV X (.type "int") (fun vs H Q=>∃(b:Bool),vs=[.bl b]/\Q (.int (if b then 1 else 0)) H):=by
 refine .mk ?_
 intro pins s σ H vs us Q I r h
 obtain⟨b,rfl,q⟩:=h
 obtain⟨u,rfl,ru⟩:=r.one
 cases(show u=Value.bool b from ru)
 exact call_int_bool ⟨.int (if b then 1 else 0),H,I.tok _,⟨_,rfl⟩,q⟩
end
mutual
theorem lH {P:Program} {w:World} {H:Hp} {h:Heap} (ok:lZ P w H h):∀(d:PyData) (v:V) (u:Value),At H d v->RelV v u->d.hasDict=false->∃as,Reads h u d as
 | .none,v,u,a,r,_=>by unfold At at a; subst a; cases r; exact⟨_,.none⟩
 | .bool b,v,u,a,r,_=>by unfold At at a; subst a; cases r; exact⟨_,.bool b⟩
 | .int i,v,u,a,r,_=>by unfold At at a; subst a; obtain⟨t,rfl⟩:=r; exact⟨_,.int i t⟩
 | .str x,v,u,a,r,_=>by unfold At at a; subst a; obtain⟨t,rfl⟩:=r; exact⟨_,.str x t⟩
 | .tuple ds,v,u,a,r,nd=>by
  unfold At at a
  obtain⟨p,xs,e,hp,ha⟩:=a
  subst e
  cases r
  obtain⟨_,its,rv,o,e1,e2,n,e3⟩:=ok p _ hp
  obtain⟨as,ra⟩:=tK ok ds xs its ha rv (by simpa[PyData.hasDict] using nd)
  exact⟨_,.tuple e1 e2 e3 (by simpa using ra)⟩
 | .list ds,v,u,a,r,nd=>by
  unfold At at a
  obtain⟨p,xs,e,hp,ha⟩:=a
  subst e
  cases r
  obtain⟨_,its,n,rv,e1⟩:=ok p _ hp
  obtain⟨as,ra⟩:=tK ok ds xs its ha rv (by simpa[PyData.hasDict] using nd)
  exact⟨_,.list e1 rfl rfl (by simpa using ra)⟩
 | .dict kvs,v,u,a,r,nd=>by simp[PyData.hasDict] at nd
theorem tK {P:Program} {w:World} {H:Hp} {h:Heap} (ok:lZ P w H h):∀(ds:List PyData) (xs:List V) (us:List Value),ak H ds xs->Vals xs us->PyData.hasDictAll ds=false->∃as,ReadsAll h us ds as
 | [],xs,us,a,r,_=>by unfold ak at a; subst a; cases r; exact⟨_,.nil⟩
 | d::ds,xs,us,a,r,nd=>by
  unfold ak at a
  obtain⟨x,t,e,h1,h2⟩:=a
  subst e
  have nd':d.hasDict=false/\PyData.hasDictAll ds=false:=by simpa[PyData.hasDictAll] using nd
  cases r with
  | cons r1 r2=>
   obtain⟨as,q1⟩:=lH ok d x _ h1 r1 nd'.1
   obtain⟨bs,q2⟩:=tK ok ds t _ h2 r2 nd'.2
   exact⟨_,.cons q1 q2⟩
end
structure ahP (d:PyData):Prop where
 can:d.showable=true
 nod:d.hasDict=false
 len:d.shown.length<=sizeLine
 dep:d.depth<=60
section
variable {X:Cx}
noncomputable def Gi (mg:Str->Option Value) (x:Str) (i:Int):Prop:=∃t,mg x=some (.int i t)
theorem JH {x:Str} {i:Int} {pos:Pos} (h:Gi X.mg x i) (hg:Gl X x:=by rfl) (hd:(x==("__debug__" : Str))=false:=by decide):PE X (.Name x pos) (tC (.int i)):=by
 obtain⟨t,ht⟩:=h
 exact gD hg ht ⟨t,rfl⟩ hd
structure Ct (P:Program) (w:World) (K:PySem.W.Frag) (mg:Str->Option Value) (base:Heap) (k:Nat) (x:Str) (ps:List Str) (sp:Sp) where
 f:Addr
 fd:FuncData
 G:bZ P w K mg base jj k f fd ps sp
 kp:PySem.W.keepIn K (.ref f)=true
 b:Binds K fd ps []
 m:mg x=some (.ref f)
noncomputable def Ct.mono {P:Program} {w:World} {K:PySem.W.Frag} {mg:Str->Option Value} {base:Heap} {j k:Nat} {x:Str} {ps:List Str} {sp:Sp} (c:Ct P w K mg base j x ps sp) (h:j<=k):Ct P w K mg base k x ps sp:={ c with G:=c.G.mono h }
theorem acV {k:Nat} {x:Str} {ps:List Str} {sp:Sp} {e:Expr} {es:List Expr} {t:TA} {p pos:Pos} (c:Ct X.prog X.w X.K X.mg X.base k x ps sp) (hr:jb k X.A) (ha:PA X (e::es) t) (hg:Gl X x:=by rfl)
  (hdb:(x==("__debug__" : Str))=false:=by decide) (he:starEach (e::es) X.env=(false,eval e X.env)::starEach es X.env:=by rfl) (hpl:(backTo pos (starEach es X.env)).any (·.1)=false:=by rfl) :
  PE X (.Call (.Name x p) (e::es) [] pos) (qL sp [] E0 t):=MP c.G hr hg c.m c.kp c.b .nil YT ha hdb he hpl
end
theorem Ww {v:V} {σ:St} {H:Hp} {Q:VK}:uM 0 (some v::σ) H Q=Q v H:=rfl
theorem Wv {i:Nat} {o:Option V} {σ:St} {H:Hp} {Q:VK}:uM (i+1) (o::σ) H Q=uM i σ H Q:=rfl
theorem Wz {v:V} {o:Option V} {σ:St}:(o::σ).set 0 (some v)=some v::σ:=rfl
theorem Wy {i:Nat} {v:V} {o:Option V} {σ:St}:(o::σ).set (i+1) (some v)=o::σ.set i (some v):=rfl
theorem S6 {t:TG} {u:Vu} {v:V} {r:List V} {σ:St} {H:Hp} {Q:St->Hp->Prop}:jO t u (v::r) σ H Q=t v σ H fun σ' H'=>u r σ' H' Q:=rfl
theorem WD {σ:St} {H:Hp} {Q:St->Hp->Prop}:zu [] σ H Q=Q σ H:=rfl
theorem gP {b:Bool} {A B:Prop} (h1:b=true->A) (h2:b=false->B):if b=true then A else B:=by
 cases b
 ·rw[bB (by decide)]; exact h2 rfl
 ·rw[aP rfl]; exact h1 rfl
theorem aaa {i j:Int} {H:Hp} {Q:VK}:rEq (.int i) (.int j) H Q=Q (.bl (decide (i=j))) H:=by
 unfold rEq Pg; simp
theorem Z8 {i j:Int} {H:Hp} {Q:VK}:rNe (.int i) (.int j) H Q=Q (.bl (!decide (i=j))) H:=by
 unfold rNe Pg; simp
theorem Z_ {i j:Str} {H:Hp} {Q:VK}:rEq (.str i) (.str j) H Q=Q (.bl (decide (i=j))) H:=by
 unfold rEq Pg; simp
theorem Z7 {i j:Str} {H:Hp} {Q:VK}:rNe (.str i) (.str j) H Q=Q (.bl (!decide (i=j))) H:=by
 unfold rNe Pg; simp
theorem WK {i:Int} {P:Int->Prop}:(∃k,[V.int i]=[V.int k]/\P k)=P i:=by
 simp
theorem WL {i:Bool} {P:Bool->Prop}:(∃k,[V.bl i]=[V.bl k]/\P k)=P i:=by
 simp
theorem S8 {i j:Int} {P:Int->Int->Prop}:(∃a b,[V.int i,V.int j]=[V.int a,V.int b]/\P a b)=P i j:=by
 refine propext ⟨?_,fun h=>⟨i,j,rfl,h⟩⟩
 rintro⟨a,b,e,h⟩
 cases e
 exact h
theorem Wx {b:Bool} {P:Bool->Prop}:(∃k,V.bl b=V.bl k/\P k)=P b:=by
 simp
theorem Z9 {i:Int} {P:Int->Prop}:(∃k,V.int i=V.int k/\P k)=P i:=by
 simp
theorem acG {i j:Int} {P:Int->Int->Prop}:(∃a b,V.int i=V.int a/\V.int j=V.int b/\P a b)=P i j:=by
 simp
theorem uI {α β:Type} {g:β->α->β} {f:α->β->Sem (ForInStep β)}:∀(l:List α) (c:β),(∀x∈l,∀c,f x c=pure (.yield (g c x)))->forIn l c f=(pure (l.foldl g c):Sem β)
 | [],c,_=>rfl
 | x::l,c,h=>by
  rw[Jv,h x jT c,pure_bind]
  exact uI l (g c x) fun y hy=>h y (jx _ hy)
theorem mO {sc:Scope} {env:Env} (h:(sc.names.all fun y=>y.2 != .free || (env.cells.lookup y.1).isSome)=true):closureFor sc env=pure (qw sc env):=by
 unfold closureFor qw
 dsimp only
 rw[uI (g:=jQ env) sc.names [] (fun y hy c=>?_)]
 ·rfl
 obtain⟨n,k⟩:=y
 have a:=wN.mp h _ hy
 dsimp only
 unfold jQ
 dsimp only
 cases hk:(k==NameKind.free) with
 | false=>simp
 | true=>
  have hk':k=.free:=beq_iff_eq.mp hk
  subst hk'
  have a':(env.cells.lookup n).isSome=true:=by simpa using a
  obtain⟨c',hc'⟩:=zf.mp a'
  simp[cellOf,hc']
theorem rH {sc:Scope} (h:(sc.names.all fun y=>y.2 != .local || sc.names.lookup y.1==some .local)=true):∀y∈sc.names,y.2=.local->sc.names.lookup y.1=some .local:=fun y hy e=>by
 have a:=wN.mp h y hy
 rw[e] at a
 simpa using a
theorem yP.mk0 {X:Cx} {x:Str} {sc:Scope} (k:sc.kind=.function:=by rfl) (n:(sc.names.all fun y=>y.2 != .cell&&y.2 != .free)=true:=by decide +kernel) (l:(sc.names.all fun y=>y.2 != .local || sc.names.lookup y.1==some .local)=true:=by decide +kernel):yP X [x] [] sc:=by
 have n':∀y∈sc.names,y.2≠.cell/\y.2≠.free:=fun y hy=>by have:=wN.mp n y hy; simpa using this
 have al:(sc.names.all fun y=>y.2 != .free || (X.env.cells.lookup y.1).isSome)=true:=wN.mpr fun y hy=>by simp[(n' y hy).2]
 exact⟨k,fun y hy=>(n' y hy).1,rH l,mO al,al,rfl,fun i j h=>by simp at h,fun y h=>by simp at h⟩
theorem yP.mk1 {X:Cx} {x y:Str} {sc:Scope} {j:Nat} (hj:X.N[j]?=some y:=by rfl) (k:sc.kind=.function:=by rfl) (n:(sc.names.all fun y=>y.2 != .cell)=true:=by decide +kernel)
  (l:(sc.names.all fun y=>y.2 != .local || sc.names.lookup y.1==some .local)=true:=by decide +kernel) (al:(sc.names.all fun y=>y.2 != .free || (X.env.cells.lookup y.1).isSome)=true:=by rfl)
  (k1:X.env.kindOf y=some .cell:=by rfl) (k2:sc.names.lookup y=some .free:=by rfl):yP X [x,y] [j] sc:=by
 have n':∀y∈sc.names,y.2≠.cell:=fun y hy=>by have:=wN.mp n y hy; simpa using this
 refine⟨k,n',rH l,mO al,al,rfl,fun i j' h=>?_,fun z h=>?_⟩
 ·cases i with
  | zero=>simp at h; subst h; exact hj.symm
  | succ i=>simp at h
 ·have e:z=y:=by simpa using h
  subst e; exact⟨k1,k2⟩
theorem yP.mk2 {X:Cx} {x y z:Str} {sc:Scope} {j j2:Nat} (hj:X.N[j]?=some y:=by rfl) (hj2:X.N[j2]?=some z:=by rfl) (k:sc.kind=.function:=by rfl) (n:(sc.names.all fun y=>y.2 != .cell)=true:=by decide +kernel)
  (l:(sc.names.all fun y=>y.2 != .local || sc.names.lookup y.1==some .local)=true:=by decide +kernel) (al:(sc.names.all fun y=>y.2 != .free || (X.env.cells.lookup y.1).isSome)=true:=by rfl)
  (k1:X.env.kindOf y=some .cell:=by rfl) (k2:sc.names.lookup y=some .free:=by rfl) (k3:X.env.kindOf z=some .cell:=by rfl) (k4:sc.names.lookup z=some .free:=by rfl):yP X [x,y,z] [j,j2] sc:=by
 have n':∀y∈sc.names,y.2≠.cell:=fun y hy=>by have:=wN.mp n y hy; simpa using this
 refine⟨k,n',rH l,mO al,al,rfl,fun i j' h=>?_,fun v h=>?_⟩
 ·match i,h with
  | 0,h=>simp at h; subst h; exact hj.symm
  | 1,h=>simp at h; subst h; exact hj2.symm
  | i+2,h=>simp at h
 ·have e:v=y\/v=z:=by simpa using h
  rcases e with e | e
  ·subst e; exact⟨k1,k2⟩
  ·subst e; exact⟨k3,k4⟩
noncomputable def cD:Expr->Bool
 | .Starred _ _=>false
 | _=>true
theorem cQ {env:Env} {e:Expr} {es:List Expr} (h:cD e=true):starEach (e::es) env=(false,eval e env)::starEach es env:=by
 cases e <;> first | rfl | exact absurd h (by simp[cD])
theorem cJ {env:Env} {pos:Pos}:∀{es:List Expr},es.all cD=true->(backTo pos (starEach es env)).any (·.1)=false
 | [],_=>rfl
 | e::es,h=>by
  have h':cD e=true/\es.all cD=true:=by simpa using h
  rw[cQ h'.1]
  show(false || (backTo pos (starEach es env)).any (·.1))=false
  rw[cJ h'.2]; rfl
section
variable {X:Cx} {x:Str} {p pos:Pos} {e:Expr} {es:List Expr} {te:TE} {t:TA} {id T:String} {r:List V->Hp->VK->Prop}
theorem aa (ha:PE X e te) (hr:PA X es t) (h:cD e=true:=by rfl):PA X (e::es) (Lg te t):=W3 ha hr (cQ h)
theorem pf {k:Nat} {ps:List Str} {sp:Sp} (c:Ct X.prog X.w X.K X.mg X.base k x ps sp) (hr:jb k X.A) (ha:PA X (e::es) t) (hg:Gl X x:=by rfl) (hdb:(x==("__debug__" : Str))=false:=by decide) (h1:cD e=true:=by rfl) (h2:es.all cD=true:=by rfl) :
  PE X (.Call (.Name x p) (e::es) [] pos) (qL sp [] E0 t):=acV c hr ha hg hdb (cQ h1) (cJ h2)
theorem pb (hc:cV X (.builtin id) r) (hm:X.mg x=none) (hv:bootBuiltins x=some (.builtin id)) (ha:PA X (e::es) t) (hg:Gl X x:=by rfl) (hn:x ≠ "__name__" := by decide) (hdb:(x==("__debug__" : Str))=false:=by decide)
  (h1:cD e=true:=by rfl) (h2:es.all cD=true:=by rfl):PE X (.Call (.Name x p) (e::es) [] pos) (ZJ r t):=TV hc hg hm hv ha hn hdb (cQ h1) (cJ h2)
theorem pt (hc:cV X (.type T) r) (hm:X.mg x=none) (hv:bootBuiltins x=some (.type T)) (ha:PA X (e::es) t) (hg:Gl X x:=by rfl) (hn:x ≠ "__name__" := by decide) (hdb:(x==("__debug__" : Str))=false:=by decide)
  (h1:cD e=true:=by rfl) (h2:es.all cD=true:=by rfl):PE X (.Call (.Name x p) (e::es) [] pos) (ZJ r t):=P_ hc hg hm hv ha hn hdb (cQ h1) (cJ h2)
end
end L2
namespace HT
open PySem PyProof.Rows
section
variable {prog:Program} {w:World} {A:Around} {E:Value->Shared->Prop} {s:Shared}
theorem rQ {t sl:Addr} {items:Array Value} {vl vu:Value} {lo hi:Option Int} {Q:Value->Shared->Prop} (ht:IsTup s.heap t items) (hs:s.heap.IsSliceOf sl vl vu .none) (pl:IsPart vl lo) (pu:IsPart vu hi)
  (hw1:gG items.size 0 lo=0) (hw2:gG items.size items.size hi=items.size) (h:Q (.ref t) s):wpAny (model prog w) A (getItem (.ref t) (.ref sl)) Q E s:=by
 obtain⟨os,hos,hcs,hds⟩:=id hs
 have tyS:s.TypeIs (.ref sl) "slice" := ⟨os,hos,hcs⟩
 unfold getItem
 try with_reducible refine pK ?_
 first | refine aW (bV ?_) | skip
 refine aW (wpAny_sequenceKey ht.typeIs (by decide) ?_)
 refine aW (PB (name:=Str.ofString "__getitem__") ht.typeIs PyProof.Rows.slot_tuple_getitem (wQ PyProof.Rows.slot_tuple_getitem ht.typeIs entry_tuple_getitem ?_ (args_tuple_getitem _ _)))
 show wpAny _ _ (Builtin.Tuple.tupleItemsOf (.ref t) >>= _) _ _ s
 refine aW (tupleItemsOf_ ht ?_)
 refine aW (wpAny_typeOf tyS ?_)
 rw[aP (by decide)]
 refine aW (lF hs pl pu ?_)
 have yes:(((gG items.size 0 lo:Nat):Int)==0&&(1:Int)==1&&(gG items.size items.size hi-gG items.size 0 lo)==items.size)=true:=by
  rw[hw1,hw2]; simp
 show wpAny _ _ (if(((gG items.size 0 lo:Nat):Int)==0&&(1:Int)==1&&(gG items.size items.size hi-gG items.size 0 lo)==items.size)=true then _ else _) _ _ s
 rw[aP yes]
 have ex:∀{R:Bool->Shared->Prop},R true s->wpAny (model prog w) A.in1 (Builtin.Tuple.tupleIsExact (.ref t)) R E s:=fun {R} q=>by
  unfold Builtin.Tuple.tupleIsExact
  refine aW (wpAny_typeOf ht.typeIs (bV ?_))
  rw[beq_self_eq_true]
  exact q
 refine aW (ex ?_)
 rw[aP rfl]
 exact aW (rB (bV ⟨_,rfl,bV h⟩))
end
end HT
namespace L2
open PySem PySem.Spec PyProof.Rows
theorem bK:bootBuiltins "isinstance" = some (.builtin "isinstance"):=by decide +kernel
theorem mY:bootBuiltins "len" = some (.builtin "len"):=by decide +kernel
theorem aba:bootBuiltins "all" = some (.builtin "all"):=by decide +kernel
theorem Es:bootBuiltins "sum" = some (.builtin "sum"):=by decide +kernel
theorem Vo:bootBuiltins "abs" = some (.builtin "abs"):=by decide +kernel
theorem gk:bootBuiltins "min" = some (.builtin "min"):=by decide +kernel
theorem iH:bootBuiltins "max" = some (.builtin "max"):=by decide +kernel
theorem uh:bootBuiltins "int" = some (.type "int"):=by decide +kernel
theorem K6:bootBuiltins "str" = some (.type "str"):=by decide +kernel
theorem Oi:bootBuiltins "bool" = some (.type "bool"):=by decide +kernel
theorem j7:bootBuiltins "list" = some (.type "list"):=by decide +kernel
theorem cg:bootBuiltins "tuple" = some (.type "tuple"):=by decide +kernel
theorem Ig:bootBuiltins "range" = some (.type "range"):=by decide +kernel
theorem sr:bootBuiltins "enumerate" = some (.type "enumerate"):=by decide +kernel
theorem K5:bootBuiltins "zip" = some (.type "zip"):=by decide +kernel
section
variable {X:Cx}
theorem pty {x:Str} {T:String} {pos:Pos} (hg:Gl X x) (hm:X.mg x=none) (hv:bootBuiltins x=some (.type T)) (hn:x ≠ "__name__" := by decide) (hd:(x==("__debug__" : Str))=false:=by decide):PE X (.Name x pos) (tC (.ty T)):=
 W2 (v:=.ty T) hg hm hv rfl hn hd
theorem Io.of {T:String} {g:PyData->Bool} {v:V} {d:PyData} {H:Hp} {Q:VK} (h:At H d v) (q:Q (.bl (g d)) H):Ju T g [v,.ty T] H Q:=⟨v,d,rfl,h,q⟩
noncomputable def aeI (K:PySem.W.Frag):List V->Hp->VK->Prop:=fun vs H Q=>∃(p:Addr) (ys:List V),vs=[.ref p]/\(dh K H p ys\/cB K H p ys)/\Q (.int ys.length) H
theorem fY {K:PySem.W.Frag} (hK:X.K=K):cV X (.builtin "len") (aeI K):=by
 subst hK
 exact Ek
noncomputable def aeE:V->Option Int->Option Int->Hp->VK->Prop:=fun x lo hi H Q=>∃(a:Addr) (xs:List V),x=.ref a/\H a=some (.tup xs)/\∀p H',aG H H'->H' p=some (.tup (pM xs lo hi))->Q (.ref p) H'
theorem gB:SlR X aeE:=by
 refine .mk ?_
 intro pins s σ H x v vl vu lo hi sl Q I rx hs pl pu h
 obtain⟨a,xs,e,hx,q⟩:=h
 by_cases hw:HT.gG xs.length 0 lo=0/\HT.gG xs.length xs.length hi=xs.length
 ·subst e
  cases rx
  obtain⟨its,r,ht,hz⟩:=I.tuple (cB.of (K:=X.K) hx)
  have hlen:its.toArray.size=xs.length:=by rw[gA]; exact r.length.symm
  refine⟨"tuple",_,PyProof.Rows.slot_tuple_getitem.lookup,ht.typeIs,?_⟩
  refine HT.rQ ht hs pl pu (by rw[hlen]; exact hw.1) (by rw[hlen]; exact hw.2) ⟨.ref a,H,I,rfl,q a H (aG.refl H) ?_⟩
  rw[hx]
  unfold pM
  rw[hw.1,hw.2,List.drop_zero,Nat.sub_zero,pL]
 ·exact ZV pins s σ H x v vl vu lo hi sl Q I rx hs pl pu ⟨a,xs,e,cB.of hx,hw,fun p hp=>q p _ (aM hp _) aC⟩
noncomputable def acO:R2:=fun x y H Q=>∃(a b:Addr) (xs ys:List V),x=.ref a/\y=.ref b/\H a=some (.tup xs)/\H b=some (.tup ys)/\xs.length+ys.length<=sizeLine/\∀p H',aG H H'->H' p=some (.tup (xs++ys))->Q (.ref p) H'
theorem ph:qJ X (binaryOp .Add) acO:=by
 refine .mk ?_
 intro pins s σ H x y v u Q I rx ry h
 obtain⟨a,b,xs,ys,e1,e2,ha,hb,hz,q⟩:=h
 by_cases hx:xs=[]
 ·subst hx e1 e2
  cases rx
  cases ry
  obtain⟨its,r1,p1,_⟩:=I.tuple (cB.of (K:=X.K) ha)
  obtain⟨its2,r2,p2,_⟩:=I.tuple (cB.of (K:=X.K) hb)
  cases r1
  obtain⟨⟨cls,dd,data,sl⟩,ho,hc,n,hd⟩:=id p1
  obtain⟨⟨cls2,dd2,data2,sl2⟩,ho2,hc2,n2,hd2⟩:=id p2
  simp only at hc hd hc2 hd2
  subst hc hd hc2 hd2
  exact concat_meets ⟨_,ho,rfl⟩ ⟨_,ho2,rfl⟩ noFill_tuple_add seq_tuple_add PySem.F.slot_tuple_add PySem.F.entry_tuple_add (PySem.F.args_tuple_add_2 _ _) (tuple_addW0 a b _ _ n n2 dd dd2 sl sl2 (by rfl)) ⟨ho,ho2,⟨.ref b,H,I,rfl,q b H (aG.refl H) hb⟩⟩
 ·refine W5 pins s σ H x y v u Q I rx ry ⟨a,b,xs,ys,e1,e2,cB.of ha,cB.of hb,hx,hz,fun z=>?_,fun _ p hp=>q p _ (aM hp _) aC⟩
  subst z
  exact q a H (aG.refl H) (by rw[ha,lJ])
noncomputable def Df:R2:=fun x y H Q=>∃(p:Addr) (xs:List V) (i:Int) (v:V),x=.ref p/\y=.int i/\(H p=some (.lst xs)\/H p=some (.tup xs))/\Il xs i=some v/\Q v H
theorem aQ:VJ X Df:=by
 have h:=(Np (X:=X)).or aaT
 refine .mk ?_
 intro a b pins s σ H x y v u Q I rx ry q
 obtain⟨p,xs,i,z,e1,e2,hp,ha,q⟩:=q
 intro hs
 refine h a b pins s σ H x y v u Q I rx ry ?_ hs
 rcases hp with hp | hp
 ·exact .inl ⟨p,xs,i,z,e1,e2,dh.of hp,ha,q⟩
 ·exact .inr ⟨p,xs,i,z,e1,e2,cB.of hp,ha,q⟩
theorem Ix.tup {a:Addr} {xs:List V} {i:Int} {v:V} {H:Hp} {Q:VK} (h:H a=some (.tup xs)) (e:Il xs i=some v) (q:Q v H):Df (.ref a) (.int i) H Q:=⟨a,xs,i,v,rfl,rfl,.inr h,e,q⟩
theorem Ix.lst {a:Addr} {xs:List V} {i:Int} {v:V} {H:Hp} {Q:VK} (h:H a=some (.lst xs)) (e:Il xs i=some v) (q:Q v H):Df (.ref a) (.int i) H Q:=⟨a,xs,i,v,rfl,rfl,.inl h,e,q⟩
theorem aa9 {js:List Nat} {ta:TA} {te:TE} {σ:St} {H:Hp} {Q:VK} {n:Nat} (hl:∀R:List V->Hp->Prop,R [.int n] H->ta σ H R) (hn:n<=1000000)
  (h:∀acc,H acc=none->∃Pv:Nat->List V->Hp->Prop,Pv 0 [] (upd H acc (.lst [])) /\
   (∀i ys H',i<n->Pv i ys H'->te (some (.int (0+(i:Nat)))::b7 js σ) H' fun y cY=>cY acc=some (.lst ys)/\ys.length<sizeLine/\Pv (i+1) (ys++[y]) (upd cY acc (.lst (ys++[y])))) /\
   ∀ys H',Pv n ys H'->Q (.ref acc) H'):ir js (Bs ta) te σ H Q:=by
 refine hl _ ⟨n,rfl,by omega,by omega,fun acc hacc=>?_⟩
 obtain⟨Pv,h0,hs,hd⟩:=h acc hacc
 have en:((n:Int)).toNat=n:=tQ n
 rw[en]
 refine⟨fun i m ys H'=>m=n-i/\i<=n/\Pv i ys H',⟨n,rfl,e_ _,h0⟩,?_⟩
 rintro i m ys H2 ⟨rfl,hi,p⟩
 by_cases hlt:i<n
 ·refine .inr ⟨hlt,fun x H3 y=>?_⟩
  obtain⟨e,y⟩:=y
  subst e y
  have Yo:=hs i ys _ hlt p
  have fe:(fun(y:V) (cY:Hp)=>cY acc=some (.lst ys)/\ys.length<sizeLine/\Pv (i+1) (ys++[y]) (upd cY acc (.lst (ys++[y]))))=fun y H4=>H4 acc=some (.lst ys)/\ys.length<sizeLine/\∃m',m'<n-i/\(m'=n-(i+1)/\i+1<=n/\Pv (i+1) (ys++[y]) (upd H4 acc (.lst (ys++[y])))):=by
   funext y cY
   refine propext ⟨fun⟨a,b,c⟩=>⟨a,b,_,by omega,rfl,hlt,c⟩,fun⟨a,b,m',_,_,_,c⟩=>⟨a,b,c⟩⟩
  rw[fe] at Yo
  exact Yo
 ·have e:i=n:=by omega
  subst e
  exact .inl ⟨bI _,hd ys _ p⟩
theorem b8:cV X (.type "tuple") (fun vs H Q=>∃(p:Addr) (ys:List V),vs=[.ref p]/\H p=some (.lst ys)/\∀l,H l=none->Q (.ref l) (upd H l (.tup ys))):=by
 refine .mk ?_
 intro pins s σ H vs us Q I r h
 obtain⟨p,ys,e,hp,q⟩:=h
 exact zx pins s σ H vs us Q I r ⟨p,ys,e,.inl ⟨dh.of hp,q⟩⟩
theorem uf:cV X (.type "list") (fun vs H Q=>∃(p:Addr) (ys:List V),vs=[.ref p]/\H p=some (.tup ys)/\∀l,H l=none->Q (.ref l) (upd H l (.lst ys))):=by
 refine .mk ?_
 intro pins s σ H vs us Q I r h
 obtain⟨p,ys,e,hp,q⟩:=h
 exact rW pins s σ H vs us Q I r ⟨p,ys,e,.inr (cB.of hp),q⟩
theorem Y9 {ta:TA} {g:TG} {tb:TS} {D:Ends} {σ:St} {H:Hp} {n:Nat} (hl:∀R:List V->Hp->Prop,R [.int n] H->ta σ H R) (hn:n<=1000000) (Pv:Nat->St->Hp->Prop) (h0:Pv 0 σ H)
  (hs:∀i σ H,i<n->Pv i σ H->g (.int (0+(i:Nat))) σ H fun σ2 H2=>tb { D with nx:=Pv (i+1),ct:=Pv (i+1),bk:=D.nx } σ2 H2) (hd:∀σ H,Pv n σ H->D.nx σ H):yS (Bs ta) g tb D σ H:=by
 refine hl _ ⟨n,rfl,by omega,by omega,?_⟩
 rw[tQ]
 exact Bx Pv h0 hs hd
noncomputable def Yv (t:TA):TE:=fun σ H Q=>t σ H fun xs H1=>xs.length<=sizeLine/\∀p H',H1 p=none->aG H1 H'->H' p=some (.lst xs)->Q (.ref p) H'
noncomputable def RV (t:TA):TE:=fun σ H Q=>t σ H fun xs H1=>xs.length<=sizeLine/\∀p H',H1 p=none->aG H1 H'->H' p=some (.tup xs)->Q (.ref p) H'
theorem bL {es:List Expr} {t:TA} {pos:Pos} (h:PA X es t):PE X (.List es pos) (Yv t):=by
 refine .mk ?_
 intro pins s σ H Q I hq
 refine wpAny_List_spliced (cT (h pos pins s σ H _ I hq) fun us s1 qx=>?_)
 obtain ⟨xs,H1,I1,r,z,q⟩:=qx
 refine ⟨by rw[<- r.length]; exact z,?_⟩
 have fr:H1 s1.heap.objs.size=none:=I1.hok.fresh (bI _)
 exact⟨.ref s1.heap.objs.size,upd H1 s1.heap.objs.size (.lst xs),I1.laid (t':=s1.toks) (fun b u e=>dY _ e) (bI _) ⟨z,us,0,r,dJ _ rfl⟩,rfl,q _ _ fr (aM fr _) aC⟩
theorem aY {es:List Expr} {t:TA} {x1} {pos:Pos} (h:PA X es t):PE X (.Tuple es x1 pos) (RV t):=by
 refine .mk ?_
 intro pins s σ H Q I hq
 refine wpAny_Tuple_spliced (cT (h pos pins s σ H _ I hq) fun us s1 qx=>?_)
 obtain ⟨xs,H1,I1,r,z,q⟩:=qx
 refine ⟨by rw[<- r.length]; exact z,?_⟩
 have fr:H1 s1.heap.objs.size=none:=I1.hok.fresh (bI _)
 exact⟨.ref s1.heap.objs.size,upd H1 s1.heap.objs.size (.tup xs),I1.laid (t':=s1.toks) (fun b u e=>dY _ e) (bI _) ⟨z,us,r,⟨_,dJ _ rfl,rfl,_,rfl⟩⟩,rfl,q _ _ fr (aM fr _) aC⟩
noncomputable def hid (a:Addr) (H:Hp):Hp:=fun b=>if b=a then none else H b
theorem cG {a b:Addr} {H:Hp} (h:b≠a):hid a H b=H b:=bB h
theorem oK {a:Addr} {H:Hp}:hid a H a=none:=aP rfl
theorem oJ {a b:Addr} {H:Hp} {o:HO} (h:hid a H b=some o):b≠a/\H b=some o:=by
 by_cases e:b=a
 ·subst e; rw[oK] at h; cases h
 ·exact⟨e,by rw[cG e] at h; exact h⟩
theorem iD {a:Addr} {H:Hp} {o:HO}:hid a (upd H a o)=hid a H:=by
 funext b
 by_cases e:b=a
 ·subst e; rw[oK,oK]
 ·rw[cG e,cG e,aR e]
theorem d8 {a p:Addr} {H:Hp} {o:HO} (h:p≠a):hid a (upd H p o)=upd (hid a H) p o:=by
 funext b
 by_cases e:b=a
 ·subst e; rw[oK,aR (Ne.symm h),oK]
 ·rw[cG e]
  by_cases e':b=p
  ·subst e'; rw[aC,aC]
  ·rw[aR e',aR e',cG e]
theorem fW {a:Addr} {H:Hp}:aG (hid a H) H:=fun b o h=>(oJ h).2
noncomputable def SX (a:Addr) (H H':Hp):Prop:=aG (hid a H) (hid a H')
theorem SX.refl (a:Addr) (H:Hp):SX a H H:=aG.refl _
theorem SX.trans {a:Addr} {H H1 H2:Hp} (x:SX a H H1) (y:SX a H1 H2):SX a H H2:=aG.trans x y
theorem SX.of {a:Addr} {H H':Hp} (s:aG H H'):SX a H H':=fun b o h=>by
 obtain⟨n,e⟩:=oJ h
 rw[cG n]; exact s _ _ e
theorem SX.upd {a:Addr} {H:Hp} {o:HO}:SX a H (upd H a o):=by unfold SX; rw[iD]; exact aG.refl _
theorem SX.get {a b:Addr} {H H':Hp} {o:HO} (s:SX a H H') (n:b≠a) (h:H b=some o):H' b=some o:=by
 have:=s b o (by rw[cG n]; exact h)
 exact(oJ this).2
noncomputable def Tp (H:Hp) (a:Addr) (n:Nat):Prop:=∃x y z:Int,H a=some (.lst [.int x,.int y,.int z])/\0<=x/\0<=y/\y<4611686018427387904/\0<=z/\z<=n
theorem Tp.mono {H:Hp} {a:Addr} {n m:Nat} (h:Tp H a n) (l:n<=m):Tp H a m:=by
 obtain⟨x,y,z,e,h1,h2,h3,h4,h5⟩:=h
 exact⟨x,y,z,e,h1,h2,h3,h4,by omega⟩
theorem Tp.same {H H':Hp} {a:Addr} {n:Nat} (h:Tp H a n) (s:aG H H'):Tp H' a n:=by
 obtain⟨x,y,z,e,r⟩:=h
 exact⟨x,y,z,s _ _ e,r⟩
theorem Tp.ne {H:Hp} {a b:Addr} {n:Nat} (h:Tp H a n) (e:H b=none):b≠a:=by
 obtain⟨x,y,z,q,_⟩:=h
 intro z; subst z; rw[e] at q; cases q
theorem Tp.neT {H:Hp} {a b:Addr} {n:Nat} {xs:List V} (h:Tp H a n) (e:H b=some (.tup xs)):b≠a:=by
 obtain⟨x,y,z,q,_⟩:=h
 intro z; subst z; rw[e] at q; cases q
theorem aG.hid {a:Addr} {H H':Hp} (s:aG H H'):aG (L2.hid a H) (L2.hid a H'):=fun b o h=>by
 obtain⟨n,e⟩:=oJ h
 rw[cG n]; exact s _ _ e
theorem SX.eZ {a p:Addr} {H H':Hp} {o:HO} (s:SX a H H') (hp:H p=none) (pa:p≠a):SX a H (L2.upd H' p o):=fun b u h=>by
 obtain⟨n,e⟩:=oJ h
 rw[d8 pa,aR (bQ e hp)]
 exact s b u h
theorem Tp.eZ {H:Hp} {a p:Addr} {n:Nat} {o:HO} (t:Tp H a n) (pa:p≠a):Tp (L2.upd H p o) a n:=by
 obtain⟨x,y,z,e,r⟩:=t
 exact⟨x,y,z,by rw[aR (Ne.symm pa)]; exact e,r⟩
noncomputable def VH (K:PySem.W.Frag) (H:Hp) (p:Addr) (xs:List V):Prop:=(∃o,H p=some (.Fl o (.lst xs))) \/
 ∃(o:Obj) (its:Array Value) (n:Nat),K.lookup p=some o/\o.cls=.type "list" /\ o.dict=none/\o.data=.seq its n/\its.size<=sizeLine/\Vals xs its.toList
theorem VH.sq {K:PySem.W.Frag} {H:Hp} {p:Addr} {xs:List V} (h:VH K H p xs):dh K H p xs:=by
 rcases h with⟨o,h⟩ | h
 ·exact .inl (.inr ⟨o,h⟩)
 ·exact .inr h
theorem VH.of {K:PySem.W.Frag} {H:Hp} {p:Addr} {xs:List V} (h:dh K H p xs) (o:Only H):VH K H p xs:=by
 rcases h with(h | h) | h
 ·rcases o p with e | ⟨ob,ys,e⟩
  ·rw[e] at h; cases h
  ·rw[e] at h; cases h
 ·exact .inl h
 ·exact .inr h
theorem VH.same {K:PySem.W.Frag} {H H':Hp} {p:Addr} {xs:List V} (h:VH K H p xs) (s:aG H H'):VH K H' p xs:=by
 rcases h with⟨o,h⟩ | h
 ·exact .inl ⟨o,s _ _ h⟩
 ·exact .inr h
end
mutual
noncomputable def fine (b:Nat):PyData->Bool
 | .none=>true
 | .bool _=>true
 | .int i=>decide (i.natAbs<=b)
 | .str x=>decide (x.length<=40)&&x.cps.toList.all fun c=>decide (c<4294967296)
 | .tuple ds=>Eb b ds
 | .list ds=>Eb b ds
 | .dict _=>false
noncomputable def Eb (b:Nat):List PyData->Bool
 | []=>true
 | d::ds=>fine b d&&Eb b ds
end
mutual
noncomputable def ac5:PyData->Nat
 | .tuple ds=>vo ds+3
 | .list ds=>vo ds+3
 | .dict _=>500
 | .none=>500
 | .bool _=>500
 | .int _=>500
 | .str _=>500
noncomputable def vo:List PyData->Nat
 | []=>0
 | d::ds=>ac5 d+2+vo ds
end
structure akN (b D M:Nat) (d:PyData):Prop where
 f:fine b d=true
 dp:d.depth<=D
 m:ac5 d<=M
structure ael (b D M:Nat) (ds:List PyData):Prop where
 f:∀d∈ds,fine b d=true
 dp:∀d∈ds,d.depth<=D
 m:vo ds<=M
section
variable {X:Cx}
end
theorem kY {xs:List V} {i:Int} (h:0<=i):pM xs none (some i)=xs.take i.toNat:=by
 obtain⟨j,rfl⟩:∃j:Nat,i=j:=⟨i.toNat,by omega⟩
 unfold pM
 rw[HT.Gn,HT.vf,List.drop_zero,Nat.sub_zero,tQ]
 by_cases q:j<=xs.length
 ·rw[Nat.min_eq_left q]
 ·rw[Mj (by omega),pL,Tg (by omega)]
theorem oM {xs:List V} {i:Int} (h:0<=i):pM xs (some i) none=xs.drop i.toNat:=by
 obtain⟨j,rfl⟩:∃j:Nat,i=j:=⟨i.toNat,by omega⟩
 unfold pM
 rw[HT.Gn,HT.vf,tQ]
 by_cases q:j<=xs.length
 ·rw[Nat.min_eq_left q,Tg (by rw[wO]; omega)]
 ·rw[Mj (by omega),Bc,List.take_nil,Tf (by omega)]
noncomputable def isS (d:PyData) (t:Str):Bool:=match d with
 | .str y=>y==t
 | _=>false
section
variable {X:Cx}
noncomputable def CJ:Value->Str
 | .str t _=>t
 | _=>""
theorem JN (hu:X.A.units+64<cLine):qJ X (compareOp .NotEq) (fun x y H Q=>∃d e,At H d x/\At H e y/\d.hasDict=false/\e.hasDict=false/\d.canLay0=true/\e.canLay0=true/\d.depth<=60/\Q (.bl (!PyData.eqv d e)) H):=by
 refine .mk ?_
 intro pins s σ H x y v u Q I rx ry h
 obtain⟨d,e,hd,he,n1,n2,c1,c2,dp,q⟩:=h
 obtain⟨as,r1⟩:=lH I.hok _ _ _ hd rx n1
 obtain⟨bs,r2⟩:=lH I.hok _ _ _ he ry n2
 exact SeqAt.compareNe_reads r1 r2 c1 c2 (by have:=Nat.min_le_left d.depth e.depth; omega) (bW I q rfl)
theorem Dp (hu:X.A.units+64<cLine):qJ X (compareOp .Eq) (fun x y H Q=>∃d e,At H d x/\At H e y/\d.hasDict=false/\e.hasDict=false/\d.canLay0=true/\e.canLay0=true/\d.depth<=60/\Q (.bl (PyData.eqv d e)) H):=by
 refine .mk ?_
 intro pins s σ H x y v u Q I rx ry h
 obtain⟨d,e,hd,he,n1,n2,c1,c2,dp,q⟩:=h
 obtain⟨as,r1⟩:=lH I.hok _ _ _ hd rx n1
 obtain⟨bs,r2⟩:=lH I.hok _ _ _ he ry n2
 exact SeqAt.compareEq_reads r1 r2 c1 c2 (by have:=Nat.min_le_left d.depth e.depth; omega) (bW I q rfl)
end
noncomputable def FK (g:TG) (tb:TS) (D:Ends) (σ:St) (vs:List V) (H1:Hp):Prop:=∃j:Int,vs=[.int j]/\-(2 ^ 62)<=j/\j<2 ^ 62/\∃W:Nat->Nat->St->Hp->Prop,(∃m,W 0 m σ H1)/\∀i m σ H,W i m σ H ->
 ((Rt 0 j.toNat).stop i H/\D.nx σ H)\/((Rt 0 j.toNat).go i H/\∃N:St->Hp->Prop,(∀σ' H',N σ' H'->∃m',m'<m/\W (i+1) m' σ' H')/\∀x H',(Rt 0 j.toNat).vH i H x H'->g x σ H' fun σ2 H2=>tb { D with nx:=N,ct:=N,bk:=D.nx } σ2 H2)
theorem vM {ta:TA} {g:TG} {tb:TS} {D:Ends} {σ:St} {H:Hp}:yS (Bs ta) g tb D σ H=ta σ H (FK g tb D σ):=rfl
theorem FK.of {g:TG} {tb:TS} {D:Ends} {σ:St} {H:Hp} {n:Nat} {i:Int} (ei:i=n) (hn:n<=1000000) (Pv:Nat->St->Hp->Prop) (h0:Pv 0 σ H)
  (hs:∀i σ H,i<n->Pv i σ H->g (.int (0+(i:Nat))) σ H fun σ2 H2=>tb { D with nx:=Pv (i+1),ct:=Pv (i+1),bk:=D.nx } σ2 H2) (hd:∀σ H,Pv n σ H->D.nx σ H):FK g tb D σ [.int i] H:=by
 subst ei
 refine⟨n,rfl,by omega,by omega,?_⟩
 rw[tQ]
 exact Bx Pv h0 hs hd
noncomputable def TK (K:PySem.W.Frag) (g:TG) (tb:TS) (D:Ends) (σ:St) (x:V) (H1:Hp):Prop:=∃a,x=.ref a/\(∃xs,cB K H1 a xs)/\∃W:Nat->Nat->St->Hp->Prop,(∃m,W 0 m σ H1)/\∀i m σ H,W i m σ H ->
 ((Zj K a).stop i H/\D.nx σ H)\/((Zj K a).go i H/\∃N:St->Hp->Prop,(∀σ' H',N σ' H'->∃m',m'<m/\W (i+1) m' σ' H')/\∀x H',(Zj K a).vH i H x H'->g x σ H' fun σ2 H2=>tb { D with nx:=N,ct:=N,bk:=D.nx } σ2 H2)
theorem nF {K:PySem.W.Frag} {tl:TE} {g:TG} {tb:TS} {D:Ends} {σ:St} {H:Hp}:yS (xZ K tl) g tb D σ H=tl σ H (TK K g tb D σ):=rfl
theorem TK.of {K:PySem.W.Frag} {g:TG} {tb:TS} {D:Ends} {σ:St} {H:Hp} {a:Addr} {xs:List V} (ha:H a=some (.tup xs)) (Pv:Nat->St->Hp->Prop) (h0:Pv 0 σ H) (hl:∀i σ H',i<=xs.length->Pv i σ H'->H' a=some (.tup xs))
  (hs:∀i x σ H,xs[i]?=some x->Pv i σ H->g x σ H fun σ2 H2=>tb { D with nx:=Pv (i+1),ct:=Pv (i+1),bk:=D.nx } σ2 H2) (hd:∀σ H,Pv xs.length σ H->D.nx σ H):TK K g tb D σ (.ref a) H:=
 ⟨a,rfl,⟨xs,cB.of ha⟩,XJ (xs:=xs) Pv h0 (fun i σ H' hi p=>cB.of (hl i σ H' hi p)) hs hd⟩
noncomputable def CK (js:List Nat) (te:TE) (σ:St) (Q:VK) (vs:List V) (H1:Hp):Prop:=∃j:Int,vs=[.int j]/\-(2 ^ 62)<=j/\j<2 ^ 62/\∀acc,H1 acc=none->∃W:Nat->Nat->List V->Hp->Prop,(∃m,W 0 m [] (upd H1 acc (.lst [])))/\∀i m ys H2,W i m ys H2 ->
 ((Rt 0 j.toNat).stop i H2/\Q (.ref acc) H2)\/((Rt 0 j.toNat).go i H2/\∀x H3,(Rt 0 j.toNat).vH i H2 x H3->te (some x::b7 js σ) H3 fun y H4=>H4 acc=some (.lst ys)/\ys.length<sizeLine/\∃m',m'<m/\W (i+1) m' (ys++[y]) (upd H4 acc (.lst (ys++[y]))))
theorem lE {js:List Nat} {ta:TA} {te:TE} {σ:St} {H:Hp} {Q:VK}:ir js (Bs ta) te σ H Q=ta σ H (CK js te σ Q):=rfl
theorem CK.of {js:List Nat} {te:TE} {σ:St} {H:Hp} {Q:VK} {n:Nat} {i:Int} (ei:i=n) (hn:n<=1000000)
  (h:∀acc,H acc=none->∃Pv:Nat->List V->Hp->Prop,Pv 0 [] (upd H acc (.lst [])) /\
   (∀i ys H',i<n->Pv i ys H'->te (some (.int (0+(i:Nat)))::b7 js σ) H' fun y cY=>cY acc=some (.lst ys)/\ys.length<sizeLine/\Pv (i+1) (ys++[y]) (upd cY acc (.lst (ys++[y])))) /\
   ∀ys H',Pv n ys H'->Q (.ref acc) H'):CK js te σ Q [.int i] H:=by
 subst ei
 have:=aa9 (ta:=fun _ H R=>R [.int n] H) (σ:=σ) (H:=H) (Q:=Q) (js:=js) (te:=te) (n:=n) (fun R hR=>hR) hn h
 exact this
noncomputable def Gs (mg:Str->Option Value) (x:Str) (i:Str):Prop:=∃t,mg x=some (.str i t)
theorem tR {X:Cx} {x:Str} {i:Str} {pos:Pos} (h:Gs X.mg x i) (hg:Gl X x:=by rfl) (hd:(x==("__debug__" : Str))=false:=by decide):PE X (.Name x pos) (tC (.str i)):=by
 obtain⟨t,ht⟩:=h
 exact gD hg ht ⟨t,rfl⟩ hd
noncomputable def fO (b:Int):List Int->Int
 | []=>b
 | x::r=>fO (if x>b then x else b) r
section
variable {prog:Program} {w:World} {A:Around} {R:Result->Shared->Prop} {It:Addr} {fp wr:List Addr} {n:Nat} {Pv:Nat->Value->Prop} {St:Nat->Heap->Prop}
theorem Ub {ns:List Int} (W:Walks prog w A.in1 It fp wr n Pv St) (hn:n=ns.length) (hv:∀i v,Pv i v->∃t,v=.int (ns.getD i 0) t) (C:Addr) (nf:C∉fp) (d:Value):∀(m j:Nat) (z:Shared) (best:Int) (tb:Tok) (c:Nat),ns.length-j=m->j<=ns.length->St j z.heap ->
  z.heap.get? C=some ⟨.type "list",none,.seq #[.int best tb,.int best tb] c,#[]⟩ ->
  (∀t h' tk,(∀b o,b∉wr->b≠C->z.heap.get? b=some o->h'.get? b=some o)->R (.ok (.ret (.int (fO best (ns.drop j)) t))) { z with heap:=h',toks:=tk }) ->
  codeAny (model prog w) A (.builtin "max.loop" ⟨[.ref It,.none,.ref C],[("default",d)]⟩) R z:=by
 subst hn
 have nw:C∉wr:=fun q=>nf (W.sub _ q)
 have nm:(toString "max" ++ toString ".loop" : String) = "max.loop" := by decide
 intro m
 induction m with
 | zero=>
  intro j z best tb c hm hj st hC fin
  have e:j=ns.length:=by omega
  subst e
  refine codeAny_builtin PySem.F.entry_max_loop ?_
  rw[Around.under_plainId PySem.F.plain_max_loop _]
  show wpAny _ A.in1 (seqItems? (.ref C) >>= _) _ _ z
  refine aW (rm hC rfl ?_)
  show wpAny _ A.in1 (tryCatch (pyNext (.ref It)) _ >>= _) _ _ z
  refine aW (Ay (W.done z _ _ st fun h' tk kp=>?_))
  refine aW (wpAny_updateSeq (kp C _ nw hC) rfl (aW (wU (bV ?_))))
  rw[Bc] at fin
  exact fin tb _ tk fun b o h1 h2 h3=>(uO _ _ (Ne.symm h2)).trans (kp b o h1 h3)
 | succ m ih=>
  intro j z best tb c hm hj st hC fin
  have lt:j<ns.length:=by omega
  refine codeAny_builtin PySem.F.entry_max_loop ?_
  rw[Around.under_plainId PySem.F.plain_max_loop _]
  show wpAny _ A.in1 (seqItems? (.ref C) >>= _) _ _ z
  refine aW (rm hC rfl ?_)
  show wpAny _ A.in1 (tryCatch (pyNext (.ref It)) _ >>= _) _ _ z
  refine aW (Ay (W.item j z _ _ lt st fun v h' tk hP st' kp=>?_))
  obtain⟨t,rfl⟩:=hv j v hP
  have hC':=kp C _ nw hC
  show wpAny _ A.in1 (tryCatch (holding [_,_] (richCompare .Gt _ (.int best tb) >>= _)) _ >>= _) _ _ _
  refine aW (Ay (pK (aW (richCompare_gives (op:=.Gt) (typeIs_int _ _ t) (typeIs_int _ _ tb) PySem.F.slot_int_gt PySem.F.entry_int_gt (PySem.F.args_int_gt_2 _ _) (gives_int_gt _ _ t tb) (fun x=>nomatch x) ?_))))
  refine aW (pK (Jz (aW (wU (bV ?_)))))
  have dr:ns.drop j=ns.getD j 0::ns.drop (j+1):=by
   rw[Tj lt,gC,fD lt]; rfl
  rw[dr] at fin
  by_cases hb:ns.getD j 0>best
  ·have e1:fO best (ns.getD j 0::ns.drop (j+1))=fO (ns.getD j 0) (ns.drop (j+1)):=by rw[fO,aP hb]
   rw[e1] at fin
   rw[h_ hb]
   simp only[if_true]
   refine aW (wpAny_updateSeq hC' rfl (aW (wU ?_)))
   rw[nm]
   refine bV ⟨plainId_quiet PySem.F.plain_max_loop _,ih (j+1) _ _ t _ (by omega) lt (W.frame _ _ _ st' fun b hb o e=>?_) (zb _ hC' rfl) fun t2 h2 tk2 k2=>?_⟩
   ·exact(uO _ _ (fun q:C=b=>nf (by rw[q]; exact hb))).trans e
   ·exact fin t2 h2 tk2 fun b o h1 h3 e=>k2 b o h1 h3 ((uO _ _ (Ne.symm h3)).trans (kp b o h1 e))
  ·have e1:fO best (ns.getD j 0::ns.drop (j+1))=fO best (ns.drop (j+1)):=by rw[fO,bB hb]
   rw[e1] at fin
   rw[ju hb]
   simp only[jw,if_false]
   refine aW (wU ?_)
   rw[nm]
   refine bV ⟨plainId_quiet PySem.F.plain_max_loop _,ih (j+1) _ best tb c (by omega) lt st' hC' fun t2 h2 tk2 k2=>?_⟩
   exact fin t2 h2 tk2 fun b o h1 h3 e=>k2 b o h1 h3 (kp b o h1 e)
theorem Qv {ns:List Int} (W:Walks prog w A.in1 It fp wr n Pv St) (hn:n=ns.length) (hv:∀i v,Pv i v->∃t,v=.int (ns.getD i 0) t) (C:Addr) (nf:C∉fp) (d:Value) (z:Shared) (c:Nat) (st:St 0 z.heap)
  (hC:z.heap.get? C=some ⟨.type "list",none,.seq #[] c,#[]⟩)
  (f0:ns=[]->∀h' tk,(∀b o,b∉wr->b≠C->z.heap.get? b=some o->h'.get? b=some o)->R (.ok (.ret d)) { z with heap:=h',toks:=tk })
  (f1:∀x r,ns=x::r->∀t h' tk,(∀b o,b∉wr->b≠C->z.heap.get? b=some o->h'.get? b=some o)->R (.ok (.ret (.int (fO x r) t))) { z with heap:=h',toks:=tk }) :
  codeAny (model prog w) A (.builtin "max.loop" ⟨[.ref It,.none,.ref C],[("default",d)]⟩) R z:=by
 have nw:C∉wr:=fun q=>nf (W.sub _ q)
 have nm:(toString "max" ++ toString ".loop" : String) = "max.loop" := by decide
 refine codeAny_builtin PySem.F.entry_max_loop ?_
 rw[Around.under_plainId PySem.F.plain_max_loop _]
 show wpAny _ A.in1 (seqItems? (.ref C) >>= _) _ _ z
 refine aW (rm hC rfl ?_)
 show wpAny _ A.in1 (tryCatch (pyNext (.ref It)) _ >>= _) _ _ z
 cases ns with
 | nil=>
  subst hn
  refine aW (Ay (W.done z _ _ st fun h' tk kp=>?_))
  show wpAny _ A.in1 (rule _ >>= _) _ _ _
  exact aW (rB (bV (f0 rfl h' tk fun b o h1 _ e=>kp b o h1 e)))
 | cons x r=>
  refine aW (Ay (W.item 0 z _ _ (by rw[hn]; exact Nat.succ_pos _) st fun v h' tk hP st' kp=>?_))
  obtain⟨t,e⟩:=hv 0 v hP
  have e:v=.int x t:=e
  subst e
  have hC':=kp C _ nw hC
  show wpAny _ A.in1 (updateSeq C (fun _=>#[Value.int x t,Value.int x t]) >>= _) _ _ _
  refine aW (wpAny_updateSeq hC' rfl ?_)
  rw[nm]
  refine bV ⟨plainId_quiet PySem.F.plain_max_loop _,Ub W hn hv C nf d _ 1 _ x t _ rfl (by simp) (W.frame _ _ _ st' fun b hb o e=>?_) (zb _ hC' rfl) fun t2 h2 tk2 k2=>?_⟩
  ·exact(uO _ _ (fun q:C=b=>nf (by rw[q]; exact hb))).trans e
  ·exact f1 x r rfl t2 h2 tk2 fun b o h1 h3 e=>k2 b o h1 h3 ((uO _ _ (Ne.symm h3)).trans (kp b o h1 e))
end
theorem Q6 (a v:Value):argsOk "max" ⟨[a],[("default",v)]⟩:=by unfold argsOk; kernel_rfl
section
variable {prog:Program} {w:World} {A:Around} {E:Value->Shared->Prop} {s:Shared}
theorem QW {l:Addr} {its:List Value} {ns:List Int} {d:Value} {Q:Value->Shared->Prop} (hh:A.handled=none) (hl:s.heap.IsList l its.toArray) (hi:∀i v,its[i]?=some v->∃t,v=Value.int (ns.getD i 0) t) (hlen:its.length=ns.length)
  (h0:ns=[]->∀h' tk,(∀b o,s.heap.get? b=some o->h'.get? b=some o)->Q d { s with heap:=h',toks:=tk })
  (h1:∀b r,ns=b::r->∀t h' tk,(∀b o,s.heap.get? b=some o->h'.get? b=some o)->Q (Value.int (fO b r) t) { s with heap:=h',toks:=tk }) :
  wpAny (model prog w) A (call (.builtin "max") [.ref l] [("default",d)]) Q E s:=by
 have nm:(toString "max" ++ toString ".loop" : String) = "max.loop" := by decide
 have lt:l<s.heap.objs.size:=by obtain⟨_,e,_⟩:=hl; exact cC e
 refine kmk_tree PySem.F.kind_max PySem.F.plain_max PySem.F.entry_max (Q6 _ _) ?_
 show wpAny _ A.in1 (Builtin.Builtins.bindParams "max" ["key","default"] 0 ⟨[],[("default",d)]⟩ >>= _) _ _ s
 refine aW (tL (show Builtin.Builtins.bindParams "max" ["key","default"] 0 ⟨[],[("default",d)]⟩=pure [none,some d] from rfl) ?_)
 refine aW (bV ?_)
 refine aW (Jy hl ?_)
 refine aW (uN ?_)
 rw[nm]
 have W:=Walks.list (prog:=prog) (w:=w) (A:=A.in1) hh s.heap.objs.size l (gw lt) its.toArray
 generalize eh:s.heap.push { cls:=.type "list_iterator",data:=.fields #[.ref l,.int 0 0] }=h1'
 have sz:h1'.objs.size=s.heap.objs.size+1:=by rw[<- eh,jm]
 have k1:∀b o,s.heap.get? b=some o->h1'.get? b=some o:=fun b o e=>by rw[<- eh]; exact dY _ e
 have hit:h1'.IsListIter s.heap.objs.size l 0:=by rw[<- eh]; exact⟨_,dJ _ rfl,rfl,rfl⟩
 have hl1:h1'.IsList l its.toArray:=by rw[<- eh]; exact hl.push _
 have nf:h1'.objs.size∉[s.heap.objs.size,l]:=fun q=>by
  rcases bU.mp q with e | q
  ·rw[sz] at e; exact Nat.succ_ne_self _ e
  ·have e:=fH.mp q; rw[sz] at e; rw[<- e] at lt; exact tM _ (GC (G8 _) lt)
 have ol:∀{h':Heap},(∀b o,b∉[s.heap.objs.size]->b≠h1'.objs.size->(h1'.push { cls:=.type "list",data:=.seq #[] 0 }).get? b=some o->h'.get? b=some o)->∀b o,s.heap.get? b=some o->h'.get? b=some o:=fun k b o e=>by
  have lb:=cC e
  refine k b o (fun q=>?_) (fun q=>?_) (dY _ (k1 b o e))
  ·rw[fH.mp q] at lb; exact tM _ lb
  ·rw[q,sz] at lb; exact tM _ (GC (G8 _) lb)
 refine bV ⟨plainId_quiet PySem.F.plain_max_loop _,Qv (ns:=ns) W (by rw[gA,hlen]) (fun i v e=>hi i v (by simpa using e)) h1'.objs.size nf d _ _ ?_ (dJ _ rfl) (fun e h' tk k=>h0 e h' tk (ol k)) (fun x r e t h' tk k=>h1 x r e t h' tk (ol k))⟩
 exact W.frame _ _ _ (show h1'.IsListIter s.heap.objs.size l 0/\h1'.IsList l its.toArray from⟨hit,hl1⟩) fun b _ o e=>dY _ e
end
section
variable {X:Cx}
noncomputable def Yu (t:TA) (te:TE):TE:=fun σ H Q=>t σ H fun vs H1=>te σ H1 fun y H2=>∃(p:Addr) (ns:List Int),vs=[.ref p]/\H2 p=some (.lst (ns.map V.int))/\(ns=[]->Q y H2)/\∀b r,ns=b::r->Q (.int (fO b r)) H2
theorem Cy {ns:List Int}:∀{us:List Value},Vals (ns.map V.int) us->∀i v,us[i]?=some v->∃t,v=Value.int (ns.getD i 0) t:=by
 induction ns with
 | nil=>intro us r i v e; cases r; simp at e
 | cons n ns ih=>
  intro us r i v e
  cases r with
  | cons r1 r2=>
   cases i with
   | zero=>
    obtain⟨t,rfl⟩:=(r1:∃t,_=Value.int n t)
    simp at e
    exact⟨t,e.symm⟩
   | succ i=>simpa using ih r2 i v (by simpa using e)
theorem MN {e e2:Expr} {t:TA} {te:TE} {p pos Xw:Pos} (hc:X.calm=true) (hm:X.mg "max" = none) (ha:PA X [e] t) (hk:PE X e2 te) (hg:Gl X "max" := by rfl) (h1:cD e=true:=by rfl) :
  PE X (.Call (.Name "max" p) [e] [⟨some "default",e2,Xw⟩] pos) (Yu t te):=by
 refine .mk ?_
 intro pins s σ H Q I h
 refine rn (iV I hg hm iH ?_ (by decide) (by decide))
 refine callWith_kw ?_ ?_ ?_ ?_ ?_
 ·refine cT (ha pos pins s σ H _ I h) fun us s1 qx=>?_
  obtain⟨vs,H1,I1,r,q⟩:=qx
  refine cT ((WT hk aag:PK X [⟨some "default",e2,Xw⟩] _) pos pins s1 σ H1 (fun ys H2=>∃y,ys=[y]/\(∃(p:Addr) (ns:List Int),vs=[.ref p]/\H2 p=some (.lst (ns.map V.int))/\(ns=[]->Q y H2)/\∀b r,ns=b::r->Q (.int (fO b r)) H2)) I1 ?_) fun ws s2 qx=>?_
  ·show te σ H1 (fun x H2=>∃y,[x]=[y]/\_)
   have fe:(fun(x:V) (H2:Hp)=>∃y,[x]=[y]/\(∃(p:Addr) (ns:List Int),vs=[.ref p]/\H2 p=some (.lst (ns.map V.int))/\(ns=[]->Q y H2)/\∀b r,ns=b::r->Q (.int (fO b r)) H2))=fun y H2=>∃(p:Addr) (ns:List Int),vs=[.ref p]/\H2 p=some (.lst (ns.map V.int))/\(ns=[]->Q y H2)/\∀b r,ns=b::r->Q (.int (fO b r)) H2:=by
    funext x H2
    refine propext ⟨?_,fun z=>⟨x,rfl,z⟩⟩
    rintro⟨y,ey,z⟩
    cases ey
    exact z
   rw[fe]
   exact q
  ·obtain⟨zs,H2,I2,rz,q2⟩:=qx
   obtain⟨y,rfl,l,ns,rfl,hl,q0,q1⟩:=q2
   obtain⟨u,rfl,ru⟩:=r.one
   cases ru
   obtain⟨v,rfl,rv⟩:=rz.one
   obtain⟨_,its,n,rvs,eo⟩:=I2.hok l _ hl
   have hlen:=rvs.length
   rw[bM] at hlen
   refine QW (ns:=ns) (I2.ok.hd hc) (show s2.heap.IsList l its.toArray from⟨_,eo,rfl,n,rfl⟩) (Cy rvs) hlen.symm (fun e h' tk k=>⟨y,H2,I2.kept (t':=tk) k,rv,q0 e⟩) (fun b r e t h' tk k=>⟨.int (fO b r),H2,I2.kept (t':=tk) k,⟨t,rfl⟩,q1 b r e⟩)
 ·rw[cQ h1]; rfl
 ·exact cJ (es:=[e]) (by simp[h1])
 ·rfl
 ·rfl
end
noncomputable def dZ (t:Str):Nat:=if(("come" : Str)==t)=true then 0 else if(("done" : Str)==t)=true then 1 else 2
noncomputable def RD:List V:=[.str "come",.str "done",.str "wait"]
noncomputable def acH (K:PySem.W.Frag):V->List V->Hp->VK->Prop:=fun x xs H Q=>∃(p:Addr) (t:Str),x=.ref p/\cB K H p RD/\xs=[.str t]/\t∈(["come","done","wait"]:List Str)/\Q (.int (dZ t)) H
noncomputable def aab:V->List V->Hp->VK->Prop:=fun x xs H Q=>∃(p:Addr) (t:Str),x=.ref p/\H p=some (.lst RD)/\xs=[.str t]/\t∈(["come","done","wait"]:List Str)/\Q (.int (dZ t)) H
theorem vJ {x y z:V} {us:List Value} (h:Vals [x,y,z] us):∃u v q,us=[u,v,q]/\RelV x u/\RelV y v/\RelV z q:=by
 obtain⟨u,r,rfl,h1,h⟩:=h.un
 obtain⟨v,q,rfl,h2,h3⟩:=h.two
 exact⟨u,v,q,rfl,h1,h2,h3⟩
theorem Nq {t:Str} (h:t∈(["come","done","wait"]:List Str)) (h0:(("come" : Str)==t)=false) (h1:(("done" : Str)==t)=false):(("wait" : Str)==t)=true:=by
 simp only[bU,jH,or_false] at h
 rcases h with rfl | rfl | rfl
 ·revert h0; decide +kernel
 ·revert h1; decide +kernel
 ·decide +kernel
section
variable {X:Cx}
theorem FJ {prog:Program} {w:World} {A:Around} {E:Value->Shared->Prop} {s:Shared} {p:Addr} {a b c t:Str} {k0 k1 k2 k3:Tok} {Q:Value->Shared->Prop} (ht:IsTup s.heap p #[.str a k0,.str b k1,.str c k2]) (hl:(a==t)=false->(b==t)=false->(c==t)=true)
  (q:∀tk,Q (Value.int (if(a==t)=true then 0 else if(b==t)=true then 1 else 2) tk) { s with toks:=s.toks+1 }):wpAny (model prog w) A (call (.builtin "tuple.index") [.ref p,.str t k3]) Q E s:=by
 refine wQ PySem.F.slot_tuple_index ht.typeIs PySem.F.entry_tuple_index ?_ (PySem.F.args_tuple_index_2 _ _)
 show wpAny _ A.in1 (Builtin.Tuple.tupleItemsOf (.ref p) >>= _) _ _ s
 refine aW (tupleItemsOf_ ht ?_)
 show wpAny _ _ ((pure 0:Sem Nat) >>= _) _ _ s
 refine aW (bV ?_)
 show wpAny _ _ ((pure 3:Sem Nat) >>= _) _ _ s
 refine aW (bV ?_)
 show wpAny _ _ (forIn [0:3] _ _ >>= _) _ _ s
 rw[Std.Legacy.Range.forIn_eq_forIn_range']
 have e:List.range' [0:3].start [0:3].size [0:3].step=[0,1,2]:=rfl
 rw[e,Jv]
 have mk:∀(i:Int) {R:PySem.Fin->Shared->Prop},(∀tk,R (.done (.ret (.int i tk))) { s with toks:=s.toks+1 })->wpAny (model prog w) A.in1 (retInt i) R E s:=fun i {R} h=>by
  unfold retInt
  refine aW (wpAny_mkInt (bV (h _)))
 have eq:∀(z:Str) (k:Tok),SeqAt.EqAt A.in1 s (.str z k) (.str t k3) (z==t):=fun z k=>SeqAt.EqAt.str_str z k t k3
 cases e0:(a==t) with
 | true=>
  rw[e0] at q
  refine aW (aW (aW (eq a k0 _ _ _ _ ?_)))
  rw[e0,aP rfl]
  refine aW (mk 0 fun tk=>bV (bV (bV ⟨_,rfl,q tk⟩)))
 | false=>
  rw[e0] at q
  refine aW (aW (aW (eq a k0 _ _ _ _ ?_)))
  rw[e0,bB (by decide)]
  refine bV ?_
  show wpAny _ _ (forIn [1,2] _ _) _ _ s
  rw[Jv]
  cases e1:(b==t) with
  | true=>
   rw[e1] at q
   refine aW (aW (eq b k1 _ _ _ _ ?_))
   rw[e1,aP rfl]
   refine aW (mk 1 fun tk=>bV (bV (bV ⟨_,rfl,q tk⟩)))
  | false=>
   rw[e1] at q
   refine aW (aW (eq b k1 _ _ _ _ ?_))
   rw[e1,bB (by decide)]
   refine bV ?_
   show wpAny _ _ (forIn [2] _ _) _ _ s
   rw[Jv]
   refine aW (aW (eq c k2 _ _ _ _ ?_))
   rw[hl e0 e1,aP rfl]
   refine aW (mk 2 fun tk=>bV (bV (bV ⟨_,rfl,q tk⟩)))
theorem Qw {K:PySem.W.Frag} (hK:X.K=K):MtR X "tuple.index" (acH K):=by
 subst hK
 intro pins s σ H x xs v us Q I rx rv h
 obtain⟨p,t,rfl,hp,rfl,ht,q⟩:=h
 cases rx
 obtain⟨u,rfl,tk,rfl⟩:=rv.one
 obtain⟨its,r,pt,_⟩:=I.tuple hp
 obtain⟨u0,u1,u2,rfl,⟨k0,rfl⟩,⟨k1,rfl⟩,⟨k2,rfl⟩⟩:=vJ r
 refine FJ pt (Nq ht) fun tk'=>⟨.int (dZ t),H,I.tok _,⟨tk',?_⟩,q⟩
 unfold dZ
 split
 ·rfl
 ·split <;> rfl
theorem Bh:MtR X "list.index" aab:=by
 intro pins s σ H x xs v us Q I rx rv h
 obtain⟨p,t,rfl,hp,rfl,ht,q⟩:=h
 cases rx
 obtain⟨u,rfl,tk,rfl⟩:=rv.one
 obtain⟨_,its,n,r,e⟩:=I.hok p _ hp
 obtain⟨u0,u1,u2,rfl,⟨k0,rfl⟩,⟨k1,rfl⟩,⟨k2,rfl⟩⟩:=vJ r
 have ee:∀y,y ∈ #[Value.str "come" k0,Value.str "done" k1,Value.str "wait" k2]->SeqAt.EqAt X.A.in1 s y (.str t tk) (CJ y==t):=fun y hy=>by
  simp only[Mi,bU,jH,or_false] at hy
  rcases hy with rfl | rfl | rfl <;> exact SeqAt.EqAt.str_str _ _ _ _
 have fin:∀j:Nat,dZ t=j->(∃x H',Inv X pins σ H' { s with toks:=s.toks+1 }/\RelV x (.int (j:Int) s.toks)/\Q x H'):=fun j ej=>⟨.int j,H,I.tok _,⟨_,rfl⟩,by rw[<- ej]; exact q⟩
 cases e0:(("come" : Str)==t) with
 | true=>
  refine call_meets PySem.F.slot_list_index ⟨_,e,rfl⟩ PySem.F.entry_list_index (PySem.F.args_list_index_2 _ _) (SeqAt.list_indexAt p #[.str "come" k0,.str "done" k1,.str "wait" k2] n none #[] (.str t tk) (fun y=>CJ y==t) 0 (by show 0<3; decide) (by decide) e0 (fun m hm h=>by omega)) ⟨e,ee,?_⟩
  exact fin 0 (by unfold dZ; rw[aP e0])
 | false=>
  cases e1:(("done" : Str)==t) with
  | true=>
   refine call_meets PySem.F.slot_list_index ⟨_,e,rfl⟩ PySem.F.entry_list_index (PySem.F.args_list_index_2 _ _) (SeqAt.list_indexAt p #[.str "come" k0,.str "done" k1,.str "wait" k2] n none #[] (.str t tk) (fun y=>CJ y==t) 1 (by show 1<3; decide) (by decide) e1 (fun m hm h=>by
    have:m=0:=by omega
    subst this; exact e0)) ⟨e,ee,?_⟩
   exact fin 1 (by unfold dZ; rw[bB (by rw[e0]; decide),aP e1])
  | false=>
   refine call_meets PySem.F.slot_list_index ⟨_,e,rfl⟩ PySem.F.entry_list_index (PySem.F.args_list_index_2 _ _) (SeqAt.list_indexAt p #[.str "come" k0,.str "done" k1,.str "wait" k2] n none #[] (.str t tk) (fun y=>CJ y==t) 2 (by show 2<3; decide) (by decide) (Nq ht e0 e1) (fun m hm h=>by
    have:m=0\/m=1:=by omega
    rcases this with rfl | rfl
    ·exact e0
    ·exact e1)) ⟨e,ee,?_⟩
   exact fin 2 (by unfold dZ; rw[bB (by rw[e0]; decide),bB (by rw[e1]; decide)])
noncomputable def GT2 (K:PySem.W.Frag) (mg:Str->Option Value) (x:Str) (W:List V):Prop:=∃a,mg x=some (.ref a)/\(∃o,K.lookup a=some o/\o.cls=.type "tuple" /\ o.dict=none)/\∀H,cB K H a W
noncomputable def ZF (K:PySem.W.Frag) (W:List V):TE:=fun _ H Q=>∀a,(∃o,K.lookup a=some o/\o.cls=.type "tuple" /\ o.dict=none)->(∀H',cB K H' a W)->Q (.ref a) H
theorem MF {K:PySem.W.Frag} {x:Str} {W:List V} {pos:Pos} (hK:X.K=K) (h:GT2 K X.mg x W) (hg:Gl X x:=by rfl) (hd:(x==("__debug__" : Str))=false:=by decide):PE X (.Name x pos) (ZF K W):=by
 obtain⟨a,ha,ho,hs⟩:=h
 refine .mk ?_
 intro pins s σ H Q I q
 exact gD (v:=.ref a) hg ha rfl hd pins s σ H Q I (q a ho hs)
end
section
variable {X:Cx} {pos:Pos}
noncomputable def ach (i j l:Nat) (ta:TA):TS:=fun D σ H=>ta σ H fun vs H1=>∃v w z,vs=[v,w,z]/\D.nx (((σ.set l (some z)).set j (some w)).set i (some v)) H1
end
theorem Inv.Le {X:Cx} {pins:List (Addr×Obj)} {σ:St} {H:Hp} {s:Shared} {h':Heap} {t':Nat} {e it:Addr} (I:Inv X pins σ H s) (k:∀b o,b≠e->b≠it->s.heap.get? b=some o->h'.get? b=some o) (fe:ik X pins H e) (fi:ik X pins H it) :
  Inv X pins σ H { s with heap:=h',toks:=t' }:=by
 have k2:∀b o,b∉[e,it]->s.heap.get? b=some o->h'.get? b=some o:=fun b o hb q=>k b o (fun z=>hb (by simp[z])) (fun z=>hb (by simp[z])) q
 have fp:∀b∈[e,it],ik X pins H b:=fun b hb=>by
  rcases bU.mp hb with z | z
  ·rw[z]; exact fe
  ·rw[fH.mp z]; exact fi
 have ni:∀b u,H b=some u->b∉[e,it]:=fun b u q hb=>by rw[(fp b hb).1] at q; cases q
 refine I.step (g':=s.gens) (d':=s.drawn) (ch:=[e,it]) (fun b hb=>?_) (fun b o _ _ hc q _=>k2 b o hc q) (fun b o _ _ hc q _=>⟨o.slots,k2 b o hc q⟩) (fun _ _ _ _ n=>n) (fun b o hc q=>⟨o,k2 b o hc q⟩) (fun _ _ q=>q) (fun _ _ _ q=>q)
  (fun b ps q=>⟨#[],by rw[q]; simp⟩) (fun m hm=>?_) (fun b u q=>?_) I.bare
 ·obtain⟨_,f1,_,f3,f4,f5⟩:=fp b hb
  exact⟨f3,f1,f4,f5⟩
 ·obtain⟨o,es,ep,ho,r⟩:=hm
  refine⟨o,es,ep,k2 _ o (fun hb=>(fp _ hb).2.1 rfl) ho,r⟩
 ·refine(I.hok b u q).stay (fun c v hc z=>k2 c v ?_ z) (fun _ z=>z) fun _ _ z=>z
  rcases hc with z | z
  ·rw[z]; exact ni b u q
  ·exact ni c _ z
noncomputable def Ite (K:PySem.W.Frag) (a:Addr):It:=
 ⟨fun i H=>∃xs x,dh K H a xs/\xs[i]?=some x,fun i H x H'=>∃p y,H p=none/\x=.ref p/\H'=upd H p (.tup [.int i,y])/\∀xs,dh K H a xs->xs[i]?=some y,fun i H=>∃xs,dh K H a xs/\xs.length<=i⟩
theorem O4 {P:Program} {w:World} {K:PySem.W.Frag} {elts:List Expr} {x1} {tp:Pos} (a e it:Addr) (hne:e≠it):Turn P w K (.Tuple elts x1 tp) (Ite K a) [e,it] e (fun i h=>(∃old,IsEnum h e it (i:Nat) old)/\h.IsListIter it a i) where
 mem:=by simp
 obj:=fun i h st b hb=>by
  obtain⟨⟨old,he⟩,o,ho,c,d⟩:=st
  rcases bU.mp hb with z | z
  ·rw[z]; exact⟨_,he,fun v q=>by cases q⟩
  ·rw[fH.mp z]; exact⟨o,ho,fun v q=>by rw[d] at q; cases q⟩
 keep:=fun i h h' st k=>by
  obtain⟨⟨old,he⟩,hi⟩:=st
  exact⟨⟨old,k e (by simp) _ he⟩,hi.at fun o q=>k it (by simp) o q⟩
 item:=by
  intro X hP hw hK hc i pins s σ H E I hf st hg
  subst hP hw hK
  obtain⟨⟨old,he⟩,hi⟩:=st
  obtain⟨xs,x,hq,hx⟩:=hg
  obtain⟨its,rv,p,hz⟩:=I.list hq
  obtain⟨u,hu,ru⟩:=rv.get hx
  have fe:=hf e (by simp)
  have fi:=hf it (by simp)
  refine wpAny_pyNext_enum_item he hi p.isList (x:=u) (by simpa using hu) hne fun h' eo hi' ht hsz kk=>?_
  have fr:H s.heap.objs.size=none:=I.hok.fresh (bI _)
  have I1:Inv X pins σ (upd H s.heap.objs.size (.tup [.int i,x])) { s with heap:=s.heap.push { cls:=.type "tuple",data:=.seq #[.int i s.toks,u] },toks:=s.toks }:=
   I.laid (t':=s.toks) (fun b v q=>dY _ q) (bI _) ⟨(by show 2<=sizeLine; decide),[.int i s.toks,u],.cons ⟨_,rfl⟩ (.cons ru .nil),⟨_,dJ _ rfl,rfl,_,rfl⟩⟩
  have ee:e<s.heap.objs.size:=cC he
  have ei:it<s.heap.objs.size:=by obtain⟨o,ho,_⟩:=hi; exact cC ho
  have J_:ik X pins (upd H s.heap.objs.size (.tup [.int i,x])) e:=⟨by rw[aR (gw ee)]; exact fe.1,fe.2⟩
  have fi1:ik X pins (upd H s.heap.objs.size (.tup [.int i,x])) it:=⟨by rw[aR (gw ei)]; exact fi.1,fi.2⟩
  have I2:Inv X pins σ (upd H s.heap.objs.size (.tup [.int i,x])) { s with heap:=h',toks:=s.toks+1 }:=I1.Le (t':=s.toks+1) (fun b o h1 h2 q=>by
   by_cases z:b=s.heap.objs.size
   ·subst z
    rw[dJ _ rfl] at q
    cases q
    exact ht
   ·rcases Heap.get?_push_cases q with w | w
    ·exact absurd w.1 z
    ·exact kk b o h1 h2 w) J_ fi1
  refine⟨_,rfl,wpAny_letOwnedTupleGo_enum eo fun h'' en sb=>⟨.ref s.heap.objs.size,_,I2.turned (it:=e) (t':=s.toks+1) (fun b o hb q=>sb.extBut b o hb q) J_.1 J_.2.1 J_.2.2.2.1 J_.2.2.2.2.1 J_.2.2.2.2.2,rfl,⟨_,x,fr,rfl,rfl,fun ys hy=>by rw[I.xP hy hq]; exact hx⟩,⟨⟨_,en⟩,?_⟩,fun b hb=>?_⟩⟩
  ·exact hi'.at fun o q=>sb.extBut it o (Ne.symm hne) q
  ·rcases bU.mp hb with z | z
   ·rw[z]; exact J_.1
   ·rw[fH.mp z]; exact fi1.1
 done:=by
  intro X hP hw hK hc i pins s σ H E I hf st hg
  subst hP hw hK
  obtain⟨⟨old,he⟩,hi⟩:=st
  obtain⟨xs,hq,hx⟩:=hg
  obtain⟨its,rv,p,hz⟩:=I.list hq
  have hl:=rv.length
  obtain⟨f0,f1,f2,f3,f4,f5⟩:=hf it (by simp)
  exact wpAny_pyNext_enum_end (I.ok.hd hc) he hi p.isList (by simp; omega) fun h' eb=>⟨rfl,I.turned (t':=s.toks) (fun b o hb q=>eb b o hb q) f0 f1 f3 f4 f5⟩
 self:=fun _ _ _ _ _ st h=>by
  obtain⟨⟨old,he⟩,_⟩:=st
  exact Mp he h
section
variable {X:Cx}
noncomputable def Y7 (K:PySem.W.Frag) (ta:TA):TI:=fun σ H R=>ta σ H fun vs H1=>∃a,vs=[.ref a]/\(∃xs,dh K H1 a xs)/\R (Ite K a) H1
theorem WY {K:PySem.W.Frag} {e:Expr} {elts:List Expr} {x1} {tp p pos:Pos} {ta:TA} (hK:X.K=K) (hm:X.mg "enumerate" = none) (ha:PA X [e] ta) (hg:Gl X "enumerate" := by rfl) (h1:cD e=true:=by rfl) :
  PI X (.Tuple elts x1 tp) (.Call (.Name "enumerate" p) [e] [] pos) (Y7 K ta):=by
 subst hK
 refine .mk ?_
 intro pins s σ H R I h
 refine rn (iV I hg hm sr ?_ (by decide) (by decide))
 refine PyProof.Rows.callWith_type1 (cT (ha pos pins s σ H _ I h) fun us s1 qx=>?_) (cQ h1) (cJ (es:=[]) rfl)
 obtain ⟨vs,H1,I1,r1,q1⟩:=qx
 obtain⟨a,rfl,⟨xs,hq⟩,q⟩:=q1
 obtain⟨u,rfl,ru⟩:=r1.one
 cases ru
 obtain⟨its,rv,pl,hz⟩:=I1.list hq
 refine call_enumerate_list pl.isList fun h' he hi hsz kk=>?_
 have I2:Inv X pins σ H1 { s1 with heap:=h' }:=I1.kept (t':=s1.toks) kk
 have f1:H1 (s1.heap.objs.size+1)=none:=I1.hok.fresh (Nat.le_succ _)
 have f0:H1 s1.heap.objs.size=none:=I1.hok.fresh (bI _)
 refine Mp he ⟨s1.heap.objs.size+1,_,_,Ite X.K a,H1,rfl,I2,O4 a (s1.heap.objs.size+1) s1.heap.objs.size (Nat.succ_ne_self _),⟨⟨_,he⟩,hi⟩,fun b hb=>?_,q⟩
 rcases bU.mp hb with z | z
 ·rw[z]; exact I1.tY (Nat.le_succ _) f1
 ·rw[fH.mp z]; exact I1.tY (bI _) f0
noncomputable def EK (K:PySem.W.Frag) (g:TG) (tb:TS) (D:Ends) (σ:St) (vs:List V) (H1:Hp):Prop:=∃a,vs=[.ref a]/\(∃xs,dh K H1 a xs)/\∃W:Nat->Nat->St->Hp->Prop,(∃m,W 0 m σ H1)/\∀i m σ H,W i m σ H ->
 ((Ite K a).stop i H/\D.nx σ H)\/((Ite K a).go i H/\∃N:St->Hp->Prop,(∀σ' H',N σ' H'->∃m',m'<m/\W (i+1) m' σ' H')/\∀x H',(Ite K a).vH i H x H'->g x σ H' fun σ2 H2=>tb { D with nx:=N,ct:=N,bk:=D.nx } σ2 H2)
theorem O6 {K:PySem.W.Frag} {ta:TA} {g:TG} {tb:TS} {D:Ends} {σ:St} {H:Hp}:yS (Y7 K ta) g tb D σ H=ta σ H (EK K g tb D σ):=rfl
theorem EK.of {K:PySem.W.Frag} {g:TG} {tb:TS} {D:Ends} {σ:St} {H:Hp} {a:Addr} {xs:List V} (ha:H a=some (.lst xs)) (Pv:Nat->St->Hp->Prop) (h0:Pv 0 σ H) (hl:∀i σ H',i<=xs.length->Pv i σ H'->H' a=some (.lst xs))
  (hs:∀i x σ H p,xs[i]?=some x->Pv i σ H->H p=none->g (.ref p) σ (upd H p (.tup [.int (i:Nat),x])) fun σ2 H2=>tb { D with nx:=Pv (i+1),ct:=Pv (i+1),bk:=D.nx } σ2 H2) (hd:∀σ H,Pv xs.length σ H->D.nx σ H):EK K g tb D σ [.ref a] H:=by
 refine⟨a,rfl,⟨xs,dh.of ha⟩,fun i m σ H=>m=xs.length-i/\i<=xs.length/\Pv i σ H,⟨_,rfl,e_ _,h0⟩,?_⟩
 rintro i m σ H ⟨rfl,hi,p⟩
 have q:dh K H a xs:=dh.of (hl i σ H hi p)
 by_cases hlt:i<xs.length
 ·refine .inr ⟨⟨xs,xs[i],q,fD hlt⟩,Pv (i+1),fun σ' H' p'=>⟨xs.length-(i+1),by omega,rfl,hlt,p'⟩,fun x H' y=>?_⟩
  obtain⟨t,z,ht,rfl,rfl,hz⟩:=y
  exact hs i z σ H t (hz xs q) p ht
 ·have e:i=xs.length:=by omega
  subst e
  exact .inl ⟨⟨xs,q,bI _⟩,hd σ H p⟩
end
theorem Bm:∀(l:List Int) (b x:Int),fO b (l++[x])=if x>fO b l then x else fO b l
 | [],b,x=>rfl
 | y::l,b,x=>by
  show fO (if y>b then y else b) (l++[x])=_
  rw[Bm l]; rfl
theorem Ot (val:Nat->Int):∀k,val (argBest (fun i j=>decide (val i>val j)) k)=fO (val 0) ((List.range k).map fun i=>val (i+1))
 | 0=>rfl
 | k+1=>by
  have ih:=Ot val k
  rw[GZ,iu]
  show val (if decide (val (k+1)>val (argBest _ k))=true then k+1 else argBest _ k)=fO (val 0) (_++[val (k+1)])
  rw[Bm,<- ih]
  by_cases h:val (k+1)>val (argBest (fun i j=>decide (val i>val j)) k)
  ·rw[aP (h_ h),aP h]
  ·rw[bB (by rw[ju h]; decide),bB h]
noncomputable def pairOf:Value->Int×Tok
 | .int i t=>(i,t)
 | _=>(0,0)
theorem qm:∀{ns:List Int} {us:List Value},Vals (ns.map V.int) us->us.toArray=intItems (us.map pairOf).toArray/\us.map (fun u=>(pairOf u).1)=ns
 | [],_,.nil=>⟨by simp[intItems],rfl⟩
 | n::ns,_,.cons r t=>by
  obtain⟨tk,rfl⟩:=(r:∃tk,_=Value.int n tk)
  obtain⟨h1,h2⟩:=qm t
  refine⟨?_,by rw[q_,h2]; rfl⟩
  have h1':=nZ Array.toList h1
  unfold intItems at h1' ⊢
  apply Array.ext'
  simp at h1' ⊢
  exact⟨⟨rfl,rfl⟩,h1'⟩
section
variable {X:Cx}
theorem pI (hc:X.calm=true):cV X (.builtin "max") (fun vs H Q=>∃(p:Addr) (b:Int) (r:List Int),vs=[.ref p]/\H p=some (.lst ((b::r).map V.int))/\Q (.int (fO b r)) H):=by
 refine .mk ?_
 intro pins s σ H vs us Q I r h
 obtain⟨p,b,rs,rfl,hp,q⟩:=h
 obtain⟨u,rfl,ru⟩:=r.one
 cases ru
 obtain⟨_,its,n,rv,e⟩:=I.hok p _ hp
 obtain⟨e1,e2⟩:=qm rv
 have hl:s.heap.IsList p (intItems (its.map pairOf).toArray):=by rw[<- e1]; exact⟨_,e,rfl,n,rfl⟩
 have hlen:=rv.length
 rw[bM] at hlen
 have na:∀i,numAt (its.map pairOf).toArray i=(b::rs).getD i 0:=fun i=>by
  unfold numAt
  rw[<- e2,gC]
  simp
  rfl
 refine max_intList (I.ok.hd hc) hl (by simp; rw[<- hlen]; simp) fun v h' tk hv k=>?_
 obtain⟨t,rfl⟩:=intItems_at hv
 refine⟨.int (fO b rs),H,I.kept (t':=tk) k,⟨t,?_⟩,q⟩
 have:=Ot (numAt (its.map pairOf).toArray) ((its.map pairOf).toArray.size-1)
 rw[this]
 congr 1
 have sz:(its.map pairOf).toArray.size-1=rs.length:=by simp; rw[<- hlen]; simp
 rw[sz,na 0]
 show fO b _=_
 congr 1
 apply G7
 ·simp
 ·intro i h1 h2
  simp at h1 h2
  rw[List.getElem_map,Hb,na (i+1)]
  simp[gC,h2]
theorem QZ:cV X (.type "list") (fun vs H Q=>∃(p:Addr) (ys:List V),vs=[.ref p]/\H p=some (.lst ys)/\∀l,H l=none->Q (.ref l) (upd H l (.lst ys))):=by
 refine .mk ?_
 intro pins s σ H vs us Q I r h
 obtain⟨p,ys,e,hp,q⟩:=h
 exact rW pins s σ H vs us Q I r ⟨p,ys,e,.inl (dh.of hp),q⟩
theorem gJ {K:PySem.W.Frag} {o e:Expr} {es:List Expr} {to:TE} {t:TA} {name:Str} {apos cpos:Pos} {T id:String} {r:V->List V->Hp->VK->Prop} (hK:X.K=K) (pa:PlainAttrs T) (slot:Slot T name id) (hty:typeOf (.builtin id)=pure (.type "method_descriptor")) (hm:MtR X id r) (ho:PE X o to) (ha:PA X (e::es) t)
  (hbase:attributeBase o name X.env (eval o X.env)=eval o X.env:=by rfl)
  (hfew:((backTo cpos (starEach (e::es) X.env)).all (fun x=>!x.1)&&(backToKw cpos (keywordEach [] X.env)).all (fun x=>x.1.isSome)&&decide ((e::es).length+([]:List Keyword).length+(if([]:List Keyword).isEmpty then 0 else 1)<30))=true:=by rfl)
  (hline:(apos.endLine==cpos.line)=true:=by rfl) (hs:starEach (e::es) X.env=(false,eval e X.env)::starEach es X.env:=by rfl) (hplain:(backTo cpos (starEach es X.env)).any (·.1)=false:=by rfl):PE X (.Call (.Attribute o name apos) (e::es) [] cpos) (tBM K T r to t):=by
 subst hK
 exact acU pa slot hty hm ho ha hbase hfew hline hs hplain
end
theorem Jh:isSubtype (.type "range_iterator") (.type "reversed")=pure false:=by rw[isSubtype_type]; kernel_rfl
section
variable {prog:Program} {w:World} {A:Around} {E:Value->Shared->Prop} {s:Shared}
noncomputable def wI (n:Int):Obj:={ cls:=.type "range_iterator",data:=.fields #[rawInt (n-1),rawInt n,rawInt (-1)] }
theorem yF {r:Addr} {n:Int} {t u v:Tok} {Q:Value->Shared->Prop} (hr:IsRange s.heap r 0 n 1 t u v) (h0:0<=n) (h1:n<2 ^ 62) (h:Q (.ref s.heap.objs.size) { s with heap:=s.heap.push (wI n) }) :
  wpAny (model prog w) A (call (.builtin "range.__reversed__") [.ref r]) Q E s:=by
 have hT:s.TypeIs (.ref r) "range" := ⟨_,hr,rfl⟩
 refine wQ PySem.F.slot_range_reversed hT PySem.F.entry_range_reversed ?_ (PySem.F.args_range_reversed_1 _)
 unfold Builtin.«range.__reversed__»
 refine aW (tL (a:=Value.ref r) rfl ?_)
 have rf:∀{R:Int×Int×Int->Shared->Prop},R (0,n,1) s->wpAny (model prog w) A.in1 (Builtin.Range.rangeFields (.ref r)) R E s:=fun {R} hR=>by
  unfold Builtin.Range.rangeFields
  refine aW (jE hr rfl (x:=.int 0 t) rfl (aW (tL (a:=some (0:Int)) rfl ?_)))
  refine aW (jE hr rfl (x:=.int n u) rfl (aW (tL (a:=some n) rfl ?_)))
  exact aW (jE hr rfl (x:=.int 1 v) rfl (aW (tL (a:=some (1:Int)) rfl (bV hR))))
 refine aW (rf ?_)
 dsimp only
 have sz:Builtin.Range.rangeSize 0 n 1=n:=by rw[rangeSize_one]; split <;> omega
 rw[sz]
 have sm:(Builtin.Range.rangeFitsLong 0&&Builtin.Range.rangeFitsLong n&&Builtin.Range.rangeFitsLong 1&&Builtin.Range.rangeFitsLong (-1)&&Builtin.Range.rangeFitsLong (0-1)&&Builtin.Range.rangeFitsLong n)=true:=by
  have:Builtin.Range.rangeFitsLong n=true:=by simp only[Builtin.Range.rangeFitsLong,wM,decide_eq_true_eq]; omega
  rw[this]; decide
 rw[sm]
 simp only[wL,jw,if_false,if_true]
 have e1:(0+(n-1)*1:Int)=n-1:=by omega
 rw[e1]
 exact aW (uN (bV ⟨_,rfl,h⟩))
theorem yC {r:Addr} {n:Int} {t u v:Tok} {Q:Value->Shared->Prop} (hr:IsRange s.heap r 0 n 1 t u v) (h0:0<=n) (h1:n<2 ^ 62) (h:Q (.ref s.heap.objs.size) { s with heap:=s.heap.push (wI n) }) :
  codeAny (model prog w) A (.call (.builtin "reversed.__new__") ⟨[.type "reversed",.ref r],[]⟩) (wants Q E) s:=by
 have hT:s.TypeIs (.ref r) "range" := ⟨_,hr,rfl⟩
 refine codeAny_of_tree ?_
 show wpAny _ A.in1 (do checkBuiltinCall "reversed.__new__" ⟨[.type "reversed",.ref r],[]⟩; again (.builtin "reversed.__new__" ⟨[.type "reversed",.ref r],[]⟩)) _ _ s
 refine aW (tL (F.newCall_reversed_1 (.ref r)) (bV ⟨plainId_quiet F.plain_reversed_new _,codeAny_builtin F.entry_reversed_new ?_⟩))
 rw[Around.under_plainId F.plain_reversed_new _]
 unfold Builtin.«reversed.__new__»
 refine aW (tL (newClass_reversed (.ref r)) ?_); (try dsimp only)
 refine aW (tL (a:=()) rfl (aW (tL (a:=()) rfl ?_)))
 refine aW (Bb hT PySem.F.slot_range_reversed.lookup ?_); (try dsimp only)
 refine aW (tL (PySem.F.slot_range_reversed.bind _) ?_); (try dsimp only)
 rw[bB (show ¬((Value.builtin "range.__reversed__" == Value.none)=true) from lK)]
 refine aW (rB (aW (m:=runValue (.call (.builtin "range.__reversed__") ⟨[.ref r],[]⟩)) (show wpAny _ _ (call (.builtin "range.__reversed__") [.ref r]) _ _ _ from yF hr h0 h1 ?_)))
 first
  | exact bV h
  | exact aW (bV (bV h))
theorem yE {r:Addr} {n:Int} {t u v:Tok} {Q:Value->Shared->Prop} (hr:IsRange s.heap r 0 n 1 t u v) (h0:0<=n) (h1:n<2 ^ 62) (h:Q (.ref s.heap.objs.size) { s with heap:=s.heap.push (wI n) }) :
  wpAny (model prog w) A (call (.type "reversed") [.ref r]) Q E s:=by
 refine callType_other (U:="range_iterator") (Q₁:=fun obj z=>obj=.ref s.heap.objs.size/\z={ s with heap:=s.heap.push (wI n) }) (by decide +kernel) F.create_reversed ⟨_,_,F.mro_reversed⟩ F.made_reversed Jh (F.typeCall_reversed_1 _) (yC hr h0 h1 ⟨rfl,rfl⟩) ?_
 rintro obj z ⟨rfl,rfl⟩
 exact⟨⟨_,dJ _ rfl,rfl⟩,h⟩
end
noncomputable def Itv (n:Nat):It:=⟨fun i _=>i<n,fun i H x H'=>H'=H/\x=.int ((n:Int)-1-i),fun i _=>n<=i⟩
theorem RL {P:Program} {w:World} {K:PySem.W.Frag} {tg:Expr} (it:Addr) (n:Nat):Turn P w K tg (Itv n) [it] it (fun i h=>IsRangeIter h it ((n:Int)-1+(i:Nat)*(-1)) ((n:Int)-(i:Nat)) (-1)) where
 mem:=by simp
 obj:=fun i h st b hb=>by
  rw[fH.mp hb]
  exact⟨_,st,fun v z=>by
   have z':Data.fields _=Data.cell v:=z
   cases z'⟩
 keep:=fun i h h' st k=>k it (by simp) _ st
 item:=by
  intro X hP hw hK hc i pins s σ H E I hf st hg
  subst hP hw hK
  obtain⟨f0,f1,f2,f3,f4,f5⟩:=hf it (by simp)
  have W:=Walks.range (prog:=X.prog) (w:=X.w) (I.ok.hd hc) it ((n:Int)-1) (-1) n
  refine W.item i s _ _ hg st fun v h' tk hv st' kk=>?_
  obtain⟨t,rfl⟩:=hv
  have I1:Inv X pins σ H { s with heap:=h',toks:=tk }:=I.turned (fun b o hb e=>kk b o (by simpa using hb) e) f0 f1 f3 f4 f5
  refine⟨_,rfl,NZ (s:={ s with heap:=h',toks:=tk }) (n:="range_iterator") st' rfl rfl (by decide) ⟨.int ((n:Int)-1-i),H,I1,⟨t,?_⟩,⟨rfl,rfl⟩,st',fun b hb=>(hf b hb).1⟩⟩
  congr 1
  omega
 done:=by
  intro X hP hw hK hc i pins s σ H E I hf st hg
  subst hP hw hK
  obtain⟨f0,f1,f2,f3,f4,f5⟩:=hf it (by simp)
  exact wpAny_pyNext_range_end (I.ok.hd hc) st (by have:n<=i:=hg; omega) fun h' eb=>⟨rfl,I.turned (t':=s.toks) (fun b o hb e=>eb b o hb e) f0 f1 f3 f4 f5⟩
 self:=fun _ _ _ _ _ st h=>Th st h
section
variable {X:Cx}
theorem Ie:bootBuiltins "reversed" = some (.type "reversed"):=by decide +kernel
noncomputable def adb (ta:TA):TI:=fun σ H R=>ta σ H fun vs H1=>∃n:Nat,vs=[.int n]/\n<=1000000/\R (Itv n) H1
theorem aai {tg a:Expr} {p p2 pos pos2:Pos} {ta:TA} (hm:X.mg "reversed" = none) (hm2:X.mg "range" = none) (ha:PA X [a] ta) (hg:Gl X "reversed" := by rfl) (hg2:Gl X "range" := by rfl) (h1:cD a=true:=by rfl) :
  PI X tg (.Call (.Name "reversed" p) [.Call (.Name "range" p2) [a] [] pos2] [] pos) (adb ta):=by
 refine .mk ?_
 intro pins s σ H R I h
 refine rn (iV I hg hm Ie ?_ (by decide) (by decide))
 refine PyProof.Rows.callWith_type1 ?_ (cQ rfl) (cJ (es:=[]) rfl)
 rw[cQ (e:=.Call (.Name "range" p2) [a] [] pos2) rfl]
 show wpAny _ _ (spliced ((false,eval (.Call (.Name "range" p2) [a] [] pos2) X.env)::backTo pos (starEach [] X.env))) _ _ s
 refine Calls.spliced_cons ?_
 refine rn (iV I hg2 hm2 Ig ?_ (by decide) (by decide))
 refine PyProof.Rows.callWith_type1 (cT (ha pos2 pins s σ H _ I h) fun us s1 qx=>?_) (cQ h1) (cJ (es:=[]) rfl)
 obtain ⟨vs,H1,I1,r1,n,e,hn,q⟩:=qx
 subst e
 obtain⟨u,rfl,t,rfl⟩:=r1.one
 refine call_range_1 ?_
 refine Calls.spliced_nil ?_
 refine yE (IsRange.new ..) (by omega) (by omega) ?_
 have k2:∀b o,s1.heap.get? b=some o->((s1.heap.push { cls:=.type "range",data:=.fields #[.int 0 s1.toks,.int (n:Int) t,.int 1 (s1.toks+1)] }).push (wI n)).get? b=some o:=fun b o e=>dY _ (dY _ e)
 have I2:=I1.kept (t':=s1.toks+1+1) k2
 generalize hh:s1.heap.push { cls:=.type "range",data:=.fields #[.int 0 s1.toks,.int (n:Int) t,.int 1 (s1.toks+1)] }=h1' at I2 ⊢
 have sz:s1.heap.objs.size<=h1'.objs.size:=by rw[<- hh,jm]; exact Nat.le_succ _
 have st:IsRangeIter (h1'.push (wI n)) h1'.objs.size ((n:Int)-1+((0:Nat):Int)*(-1)) ((n:Int)-((0:Nat):Int)) (-1):=by
  have e1:(n:Int)-1+((0:Nat):Int)*(-1)=(n:Int)-1:=by simp
  have e2:(n:Int)-((0:Nat):Int)=n:=by simp
  rw[e1,e2]
  exact dJ _ rfl
 refine Th (s:={ s1 with heap:=h1'.push (wI n),toks:=s1.toks+1+1 }) (by exact st) ⟨h1'.objs.size,[h1'.objs.size],_,Itv n,H1,rfl,I2,RL _ n,st,fun b hb=>?_,q⟩
 rw[fH.mp hb]
 exact I1.tY sz (I1.hok.fresh sz)
noncomputable def VK' (g:TG) (tb:TS) (D:Ends) (σ:St) (vs:List V) (H1:Hp):Prop:=∃n:Nat,vs=[.int n]/\n<=1000000/\∃W:Nat->Nat->St->Hp->Prop,(∃m,W 0 m σ H1)/\∀i m σ H,W i m σ H ->
 ((Itv n).stop i H/\D.nx σ H)\/((Itv n).go i H/\∃N:St->Hp->Prop,(∀σ' H',N σ' H'->∃m',m'<m/\W (i+1) m' σ' H')/\∀x H',(Itv n).vH i H x H'->g x σ H' fun σ2 H2=>tb { D with nx:=N,ct:=N,bk:=D.nx } σ2 H2)
theorem R3 {ta:TA} {g:TG} {tb:TS} {D:Ends} {σ:St} {H:Hp}:yS (adb ta) g tb D σ H=ta σ H (VK' g tb D σ):=rfl
theorem VK'.of {g:TG} {tb:TS} {D:Ends} {σ:St} {H:Hp} {n:Nat} {i:Int} (ei:i=n) (hn:n<=1000000) (Pv:Nat->St->Hp->Prop) (h0:Pv 0 σ H)
  (hs:∀i σ H,i<n->Pv i σ H->g (.int ((n:Int)-1-(i:Nat))) σ H fun σ2 H2=>tb { D with nx:=Pv (i+1),ct:=Pv (i+1),bk:=D.nx } σ2 H2) (hd:∀σ H,Pv n σ H->D.nx σ H):VK' g tb D σ [.int i] H:=by
 subst ei
 refine⟨n,rfl,hn,fun i m σ H=>m=n-i/\i<=n/\Pv i σ H,⟨n,rfl,e_ _,h0⟩,?_⟩
 rintro i m σ H ⟨rfl,hi,p⟩
 by_cases hlt:i<n
 ·refine .inr ⟨hlt,Pv (i+1),fun σ' H' p'=>⟨n-(i+1),by omega,rfl,hlt,p'⟩,fun x H' y=>?_⟩
  obtain⟨e1,e2⟩:=y
  subst e1 e2
  exact hs i σ _ hlt p
 ·have e:i=n:=by omega
  subst e
  exact .inl ⟨bI _,hd σ H p⟩
end
structure uX (K:PySem.W.Frag) (x qual:Str) (st:Stmt) (f:Addr) (fd:FuncData) (T:Addr) (i:Int) (t:Tok):Prop where
 ex:∃(oc:Value) (od:Option Addr) (kV doc pm:Value) (an:Option Addr) (cdv ct:Value) (osl:Array (Option Value)),
  fd=PySem.W.fnOf x qual (fM st) (dI st) (aK st) (.ref T) kV doc pm an cdv ct/\K.lookup f=some ⟨oc,od,.func fd,osl⟩/\PySem.W.codeIn K cdv qual=true
 kp:PySem.W.keepIn K (.ref f)=true
 df:∃o n,K.lookup T=some o/\o.data=.seq #[.int i t] n
section
variable {P:Program} {w:World} {K:PySem.W.Frag} {mg:Str->Option Value} {base:Heap}
theorem uX.ok {x qual:Str} {st:Stmt} {f T:Addr} {i:Int} {t:Tok} {fd:FuncData} {N ps:List Str} {k:Nat} {sp:Sp} (F:uX K x qual st f fd T i t) (S:bf N ps (aK st)) (len:∀vs H Q E,sp vs H Q E->vs.length=ps.length)
  (hb:∀(cdv:Value) (A:Around) (outer:List Env) (s:Shared) (H:Hp) (vs:List V) (Q:VK) (E:XK),jb k (A.deeper (envOfC qual (aK st) s.heap.objs.size f cdv))->sp vs H Q E ->
   ∃t,zV (ig jj P w K mg base N qual (aK st) f cdv A outer s H E).nox (dI st) t/\t { nx:=fun _ H'=>Q .non H',rt:=Q } (start N vs) H):bZ P w K mg base jj (k+1) f fd ps sp:=by
 obtain⟨oc,od,kV,doc,pm,an,cdv,ct,osl,rfl,lk,hcd⟩:=F.ex
 exact Y_ lk hcd S len fun A outer s H vs Q E hr hsp=>let ⟨t,h,q⟩:=hb cdv A outer s H vs Q E hr hsp; ⟨t,h.nox,q⟩
theorem uX.binds {x qual:Str} {st:Stmt} {f T:Addr} {i:Int} {t:Tok} {fd:FuncData} {ps:List Str} {ds:List Value} (F:uX K x qual st f fd T i t)
  (h:∀(kV doc pm:Value) (an:Option Addr) (cdv ct:Value) (us:List Value),(us++ds).length=ps.length->∃k,bindArgs (PySem.W.fnOf x qual (fM st) (dI st) (aK st) (.ref T) kV doc pm an cdv ct) ⟨us,[]⟩=seqItems? (.ref T) >>= k/\k (some #[.int i t])=pure (ps.zip (us++ds))):Binds K fd ps ds:=by
 obtain⟨oc,od,kV,doc,pm,an,cdv,ct,osl,rfl,lk,hcd⟩:=F.ex
 obtain⟨o,n,ho,hd⟩:=F.df
 intro s us KX hl
 obtain⟨k,h1,h2⟩:=h kV doc pm an cdv ct us hl
 exact BindsTo.of_defaults rfl (KX _ _ ho) hd h1 h2
end
structure CtD (P:Program) (w:World) (K:PySem.W.Frag) (mg:Str->Option Value) (base:Heap) (k:Nat) (x:Str) (ps:List Str) (i:Int) (sp:Sp) where
 f:Addr
 fd:FuncData
 t:Tok
 G:bZ P w K mg base jj k f fd ps sp
 kp:PySem.W.keepIn K (.ref f)=true
 b:Binds K fd ps []
 bd:Binds K fd ps [.int i t]
 m:mg x=some (.ref f)
noncomputable def CtD.mono {P:Program} {w:World} {K:PySem.W.Frag} {mg:Str->Option Value} {base:Heap} {j k:Nat} {x:Str} {ps:List Str} {i:Int} {sp:Sp} (c:CtD P w K mg base j x ps i sp) (h:j<=k):CtD P w K mg base k x ps i sp:={ c with G:=c.G.mono h }
section
variable {X:Cx} {x:Str} {p pos:Pos} {e:Expr} {es:List Expr} {t:TA}
theorem pfd {k:Nat} {ps:List Str} {i:Int} {sp:Sp} (c:CtD X.prog X.w X.K X.mg X.base k x ps i sp) (hr:jb k X.A) (ha:PA X (e::es) t) (hg:Gl X x:=by rfl) (hdb:(x==("__debug__" : Str))=false:=by decide) (h1:cD e=true:=by rfl) (h2:es.all cD=true:=by rfl) :
  PE X (.Call (.Name x p) (e::es) [] pos) (qL sp [.int i] E0 t):=MP c.G hr hg c.m c.kp c.bd (.cons ⟨_,rfl⟩ .nil) YT ha hdb (cQ h1) (cJ h2)
end
section
variable {X:Cx}
end
noncomputable def LK (K:PySem.W.Frag) (g:TG) (tb:TS) (D:Ends) (σ:St) (x:V) (H1:Hp):Prop:=∃a,x=.ref a/\(∃xs,dh K H1 a xs)/\∃W:Nat->Nat->St->Hp->Prop,(∃m,W 0 m σ H1)/\∀i m σ H,W i m σ H ->
 ((Zk K a).stop i H/\D.nx σ H)\/((Zk K a).go i H/\∃N:St->Hp->Prop,(∀σ' H',N σ' H'->∃m',m'<m/\W (i+1) m' σ' H')/\∀x H',(Zk K a).vH i H x H'->g x σ H' fun σ2 H2=>tb { D with nx:=N,ct:=N,bk:=D.nx } σ2 H2)
theorem FP {K:PySem.W.Frag} {tl:TE} {g:TG} {tb:TS} {D:Ends} {σ:St} {H:Hp}:yS (x_ K tl) g tb D σ H=tl σ H (LK K g tb D σ):=rfl
theorem LK.of {K:PySem.W.Frag} {g:TG} {tb:TS} {D:Ends} {σ:St} {H:Hp} {a:Addr} {xs:List V} (ha:H a=some (.lst xs)) (Pv:Nat->St->Hp->Prop) (h0:Pv 0 σ H) (hl:∀i σ H',i<=xs.length->Pv i σ H'->H' a=some (.lst xs))
  (hs:∀i x σ H,xs[i]?=some x->Pv i σ H->g x σ H fun σ2 H2=>tb { D with nx:=Pv (i+1),ct:=Pv (i+1),bk:=D.nx } σ2 H2) (hd:∀σ H,Pv xs.length σ H->D.nx σ H):LK K g tb D σ (.ref a) H:=
 ⟨a,rfl,⟨xs,dh.of ha⟩,U5 (xs:=xs) Pv h0 (fun i σ H' hi p=>dh.of (hl i σ H' hi p)) hs hd⟩
end L2
namespace L2
open PySem
mutual
noncomputable def uQ:PyData->Bool
 | .tuple ds=>bN ds
 | .list _=>false
 | .dict _=>false
 | .none=>true
 | .bool _=>true
 | .int _=>true
 | .str _=>true
noncomputable def bN:List PyData->Bool
 | []=>true
 | d::ds=>uQ d&&bN ds
end
theorem cX:∀{ds:List PyData},bN ds=true↔∀d∈ds,uQ d=true
 | []=>by simp[bN]
 | d::ds=>by
  have ih:=cX (ds:=ds)
  simp only[bN,wM,ih,bU,forall_eq_or_imp]
mutual
theorem At.uT {G:Hp} {p:Addr} {xs:List V} (hp:G p=some (.lst xs)):∀(d:PyData) (v:V),uQ d=true->At G d v->At (hid p G) d v
 | .none,_,_,h=>by unfold At at h ⊢; exact h
 | .bool _,_,_,h=>by unfold At at h ⊢; exact h
 | .int _,_,_,h=>by unfold At at h ⊢; exact h
 | .str _,_,_,h=>by unfold At at h ⊢; exact h
 | .tuple ds,v,n,h=>by
  unfold At at h ⊢
  obtain⟨a,ys,e,h1,h2⟩:=h
  refine⟨a,ys,e,?_,ak.uT hp ds ys (by simpa[uQ] using n) h2⟩
  rw[cG (fun z=>by subst z; rw[hp] at h1; cases h1)]; exact h1
 | .list _,_,n,_=>by simp[uQ] at n
 | .dict _,_,n,_=>by simp[uQ] at n
theorem ak.uT {G:Hp} {p:Addr} {xs:List V} (hp:G p=some (.lst xs)):∀(ds:List PyData) (ys:List V),bN ds=true->ak G ds ys->ak (hid p G) ds ys
 | [],_,_,h=>by unfold ak at h ⊢; exact h
 | d::ds,ys,n,h=>by
  unfold ak at h ⊢
  obtain⟨x,r,e,h1,h2⟩:=h
  have n':uQ d=true/\bN ds=true:=by simpa[bN] using n
  exact⟨x,r,e,At.uT hp d x n'.1 h1,ak.uT hp ds r n'.2 h2⟩
end
theorem CG:∀l:List Int,(∀c∈l,0<=c)->0<=l.sum
 | [],_=>by simp
 | x::l,h=>by rw[GK]; have:=CG l fun c hc=>h c (jx _ hc); have:=h x jT; omega
theorem pG:∀ws:List Int,PyData.hasDictAll (ws.map .int)=false/\PyData.canLayAll0 (ws.map .int)=true/\PyData.depthAll (ws.map .int)=0
 | []=>⟨rfl,rfl,rfl⟩
 | w::ws=>by
  obtain⟨h1,h2,h3⟩:=pG ws
  refine⟨?_,?_,?_⟩
  ·show(PyData.hasDict (.int w) || PyData.hasDictAll (ws.map .int))=false
   rw[h1]; rfl
  ·show(PyData.canLay0 (.int w)&&PyData.canLayAll0 (ws.map .int))=true
   rw[h2]; rfl
  ·show max (PyData.depth (.int w)) (PyData.depthAll (ws.map .int))=0
   rw[h3]; rfl
theorem Xi {xs ys:List V} {p q:Addr} {H:Hp} {Q:VK} (e:H p=some (.lst xs)) (e2:H q=some (.tup ys)) (z:xs.length+ys.length<=sizeLine) (k:∀r H',aG H H'->H' r=some (.lst (xs++ys))->Q (.ref r) H') :
  ∃p_2 ys',[V.ref q]=[V.ref p_2]/\H p_2=some (.tup ys')/\∀l,H l=none->Dg (.ref p) (.ref l) (upd H l (.lst ys')) Q:=by
 refine⟨q,ys,rfl,e2,fun l hl=>?_⟩
 have s1:=aM hl (HO.lst ys)
 refine⟨p,l,xs,ys,rfl,rfl,s1 _ _ e,aC,z,fun r hr=>?_⟩
 exact k r _ (s1.trans (aM hr _)) aC
theorem take_snoc {α:Type} {l:List α} {i:Nat} {c:α} (h:l[i]?=some c):l.take (i+1)=l.take i++[c]:=by
 obtain⟨hi,e⟩:=fj.mp h
 rw[List.take_succ_eq_append_getElem hi,e]
theorem SX.same {p:Addr} {H H':Hp} (hp:H p=none) (s:SX p H H'):aG H H':=fun b o h=>by
 have hb:b≠p:=fun z=>by rw[z,hp] at h; cases h
 exact s.get hb h
theorem Bf {ts:List Str} {i:Int} (h0:0<=i) (h1:i<ts.length):∃t,t∈ts/\Il (ts.map V.str) i=some (.str t):=by
 have hi:i.toNat<ts.length:=by omega
 refine⟨ts[i.toNat],Jx hi,?_⟩
 have:=bz (xs:=ts.map V.str) (j:=i.toNat) (v:=.str ts[i.toNat]) (by rw[fQ,fD hi]; rfl)
 rwa [show((i.toNat:Nat):Int)=i by omega] at this
theorem jB {ts:List Int} {i:Int} (h0:0<=i) (h1:i<ts.length):∃t,t∈ts/\Il (ts.map V.int) i=some (.int t):=by
 have hi:i.toNat<ts.length:=by omega
 refine⟨ts[i.toNat],Jx hi,?_⟩
 have:=bz (xs:=ts.map V.int) (j:=i.toNat) (v:=.int ts[i.toNat]) (by rw[fQ,fD hi]; rfl)
 rwa [show((i.toNat:Nat):Int)=i by omega] at this
noncomputable def eQ (a b:TS):TS:=RX a b
theorem Gh (i:Nat) {e:TE} {b:TS}:RX (FQ e (eU i)) b=eQ (FQ e (eU i)) b:=rfl
theorem Gg {c:TT} {x y b:TS}:RX (We c x y) b=eQ (We c x y) b:=rfl
theorem eQ.of {a b:TS} {D:Ends} {σ:St} {H:Hp} (R:St->Hp->Prop) (hR:∀σ' H',R σ' H'->b D σ' H') (h:∀N:St->Hp->Prop,(∀σ' H',R σ' H'->N σ' H')->a { D with nx:=N } σ H):eQ a b D σ H:=h _ hR
theorem eQ.on {a b:TS} {D:Ends} {σ:St} {H:Hp} (hR:∀H',aG H H'->b D σ H') (h:∀N:St->Hp->Prop,(∀H',aG H H'->N σ H')->a { D with nx:=N } σ H):eQ a b D σ H:=
 eQ.of (fun σ' H'=>σ'=σ/\aG H H') (fun σ' H' z=>by rw[z.1]; exact hR H' z.2) fun N hN=>h N fun H' s=>hN _ _ ⟨rfl,s⟩
theorem ac8 {α:Type} {l:List α} (h:l.length=3):∃a b c,l=[a,b,c]:=by
 match l,h with
 | [a,b,c],_=>exact⟨a,b,c,rfl⟩
theorem Ul {α:Type} {l:List α} (h:l.length=5):∃a b c d e,l=[a,b,c,d,e]:=by
 match l,h with
 | [a,b,c,d,e],_=>exact⟨a,b,c,d,e,rfl⟩
theorem aG.eZ {H H':Hp} {p:Addr} {o:HO} (s:aG H H') (hp:H p=none):aG H (upd H' p o):=fun b u h=>by rw[aR (bQ h hp)]; exact s _ _ h
noncomputable def Bp:PyData->Bool
 | .list _=>true
 | _=>false
theorem Nm (K:PySem.W.Frag) (d:PyData):PySem.W.kitOne K (.type (VF d)) (.type "list")=some (Bp d):=by cases d <;> kernel_rfl
theorem Nv {X:Cx}:cV X (.builtin "isinstance") (Ju "list" Bp):=xV Nm
theorem jM {ds:List PyData} (h:bN ds=true) {i:Nat} {d:PyData} (e:ds[i]?=some d):uQ d=true:=cX.mp h d (je e)
theorem Ef {K:PySem.W.Frag} {js:List Nat} {a:Addr} {xs:List V} {es:List PyData} {tl te:TE} {σ:St} {H:Hp} {Q:VK} (hl:∀R:VK,R (.ref a) H->tl σ H R) (ha:H a=some (.lst xs)) (hn:es.length=xs.length) (hz:es.length<=sizeLine) (hL:bN es=true)
  (step:∀(i:Nat) x e H',xs[i]?=some x->es[i]?=some e->aG H H'->∀R:VK,(∀v cY,aG H' cY->At cY e v->R v cY)->te (some x::b7 js σ) H' R)
  (fin:∀acc ys H',aG H H'->H acc=none->H' acc=some (.lst ys)->ak (hid acc H') es ys->Q (.ref acc) H'):ir js (x_ K tl) te σ H Q:=by
 refine hl _ ⟨a,rfl,⟨xs,dh.of ha⟩,fun acc hacc=>?_⟩
 refine⟨fun i m ys H2=>m=es.length-i/\i<=es.length/\ak (hid acc H2) (es.take i) ys/\aG H H2/\H2 acc=some (.lst ys),⟨_,rfl,e_ _,ak.nil,aM hacc _,aC⟩,?_⟩
 rintro i m ys H2 ⟨rfl,hi,hA,sm,hy⟩
 have ht:dh K H2 a xs:=dh.of (sm _ _ ha)
 by_cases hlt:i<es.length
 ·refine .inr ⟨⟨xs,xs[i]'(by omega),ht,fD (by omega)⟩,fun x H3 y=>?_⟩
  obtain⟨e,y⟩:=y
  subst e
  have e1:es[i]?=some es[i]:=fD hlt
  refine step i x _ _ (y xs ht) e1 sm _ fun v H4 s4 a4=>⟨s4 _ _ hy,?_,es.length-(i+1),by omega,rfl,hlt,?_,?_,aC⟩
  ·rw[hA.length,jG]; omega
  ·rw[iD,Dj,e1]
   exact ak.append (hA.mono (aG.hid s4)) (ak.cons (At.uT (s4 _ _ hy) _ _ (jM hL e1) a4) ak.nil)
  ·refine fun b o q=>?_
   have nb:b≠acc:=bQ q hacc
   rw[aR nb]
   exact s4 _ _ (sm _ _ q)
 ·have e:i=es.length:=by omega
  subst e
  rw[pL] at hA
  exact .inl ⟨⟨xs,ht,by omega⟩,fin _ _ _ sm hacc hy hA⟩
end L2
namespace L2
open PySem PySem.Spec PyProof.Rows
noncomputable def jV:Int->List Int->Int
 | b,[]=>b
 | b,x::l=>jV (if x<b then x else b) l
theorem Bj:∀(l:List Int) (b x:Int),jV b (l++[x])=if x<jV b l then x else jV b l
 | [],b,x=>rfl
 | y::l,b,x=>by
  show jV (if y<b then y else b) (l++[x])=_
  rw[Bj l]; rfl
theorem Oq (val:Nat->Int):∀k,val (argBest (fun i j=>decide (val i<val j)) k)=jV (val 0) ((List.range k).map fun i=>val (i+1))
 | 0=>rfl
 | k+1=>by
  have ih:=Oq val k
  rw[GZ,iu]
  show val (if decide (val (k+1)<val (argBest _ k))=true then k+1 else argBest _ k)=jV (val 0) (_++[val (k+1)])
  rw[Bj,<- ih]
  by_cases h:val (k+1)<val (argBest (fun i j=>decide (val i<val j)) k)
  ·rw[aP (h_ h),aP h]
  ·rw[bB (by rw[ju h]; decide),bB h]
section
variable {X:Cx}
theorem ue (hc:X.calm=true):cV X (.builtin "min") (fun vs H Q=>∃(p:Addr) (b:Int) (r:List Int),vs=[.ref p]/\H p=some (.lst ((b::r).map V.int))/\Q (.int (jV b r)) H):=by
 refine .mk ?_
 intro pins s σ H vs us Q I r h
 obtain⟨p,b,rs,rfl,hp,q⟩:=h
 obtain⟨u,rfl,ru⟩:=r.one
 cases ru
 obtain⟨_,its,n,rv,e⟩:=I.hok p _ hp
 obtain⟨e1,e2⟩:=qm rv
 have hl:s.heap.IsList p (intItems (its.map pairOf).toArray):=by rw[<- e1]; exact⟨_,e,rfl,n,rfl⟩
 have hlen:=rv.length
 rw[bM] at hlen
 have na:∀i,numAt (its.map pairOf).toArray i=(b::rs).getD i 0:=fun i=>by
  unfold numAt
  rw[<- e2,gC]
  simp
  rfl
 refine min_intList (I.ok.hd hc) hl (by simp; rw[<- hlen]; simp) fun v h' tk hv k=>?_
 obtain⟨t,rfl⟩:=intItems_at hv
 refine⟨.int (jV b rs),H,I.kept (t':=tk) k,⟨t,?_⟩,q⟩
 have:=Oq (numAt (its.map pairOf).toArray) ((its.map pairOf).toArray.size-1)
 rw[this]
 congr 1
 have sz:(its.map pairOf).toArray.size-1=rs.length:=by simp; rw[<- hlen]; simp
 rw[sz,na 0]
 show jV b _=_
 congr 1
 apply G7
 ·simp
 ·intro i h1 h2
  simp at h1 h2
  rw[List.getElem_map,Hb,na (i+1)]
  simp[gC,h2]
end
structure jz (X:Cx) (nt:Nat) (N':List Str) (js:List Nat) (sc:Scope):Prop where
 kind:sc.kind=.function
 iU:∀y∈sc.names,y.2≠.cell
 names:∀y∈sc.names,y.2=.local->sc.names.lookup y.1=some .local
 clos:closureFor sc X.env=pure (qw sc X.env)
 all:(sc.names.all fun y=>y.2 != .free || (X.env.cells.lookup y.1).isSome)=true
 len:N'.length=nt+js.length
 cap:∀(i j:Nat),js[i]?=some j->N'[nt+i]?=X.N[j]?
 Vk:∀y∈N'.drop nt,X.env.kindOf y=some .cell/\sc.names.lookup y=some .free
theorem yD:∀(names:List (Str×NameKind)) (h:Heap) (acc:List (Str×Addr)) (x:Str) (c:Addr),(cellsFrom h.objs.size names acc).lookup x=some c->((pushCells h names).IsCell c none/\h.objs.size<=c)\/(acc.lookup x=some c/\(x,NameKind.cell)∉names)
 | [],h,acc,x,c,e=>.inr ⟨e,by simp⟩
 | (name,kind)::r,h,acc,x,c,e=>by
  unfold cellsFrom at e
  unfold pushCells
  split at e
  ·rename_i hk
   have hk':kind=.cell:=by simpa using hk
   rw[aP hk]
   have:=yD r (h.push { cls:=.type "cell",data:=.cell none }) ((name,h.objs.size)::acc) x c (by rw[jm]; exact e)
   rw[jm] at this
   rcases this with⟨z,z'⟩ | ⟨z,z'⟩
   ·exact .inl ⟨z,by omega⟩
   ·rw[tO] at z
    cases hx:x==name with
    | true=>
     rw[hx] at z
     cases z
     refine .inl ⟨?_,bI _⟩
     exact⟨_,pushCells_keeps r _ _ _ (dJ _ rfl),rfl⟩
    | false=>
     rw[hx] at z
     refine .inr ⟨z,fun m=>?_⟩
     rcases bU.mp m with q | q
     ·have:x=name:=(Prod.mk.inj q).1
      simp[this] at hx
     ·exact z' q
  ·rename_i hk
   rw[bB hk]
   rcases yD r h acc x c e with z | ⟨z,z'⟩
   ·exact .inl z
   ·refine .inr ⟨z,fun m=>?_⟩
    rcases bU.mp m with q | q
    ·exact hk (by rw[<- (Prod.mk.inj q).2]; rfl)
    ·exact z' q
theorem KD:∀(names:List (Str×NameKind)) (n:Nat) (acc:List (Str×Addr)),(∀x y c,acc.lookup x=some c->acc.lookup y=some c->x=y)->(∀x c,acc.lookup x=some c->c<n) ->
  (∀x y c,(cellsFrom n names acc).lookup x=some c->(cellsFrom n names acc).lookup y=some c->x=y)/\True
 | [],n,acc,h,_=>⟨h,trivial⟩
 | (name,kind)::r,n,acc,h,hb=>by
  unfold cellsFrom
  split
  ·refine KD r (n+1) ((name,n)::acc) (fun x y c e1 e2=>?_) (fun x c e=>?_)
   ·rw[tO] at e1 e2
    cases hx:x==name with
    | true=>
     rw[hx] at e1
     cases e1
     cases hy:y==name with
     | true=>rw[beq_iff_eq.mp hx,beq_iff_eq.mp hy]
     | false=>rw[hy] at e2; exact absurd (hb _ _ e2) (tM _)
    | false=>
     rw[hx] at e1
     cases hy:y==name with
     | true=>rw[hy] at e2; cases e2; exact absurd (hb _ _ e1) (tM _)
     | false=>rw[hy] at e2; exact h x y c e1 e2
   ·rw[tO] at e
    cases hx:x==name with
    | true=>rw[hx] at e; cases e; exact G8 _
    | false=>rw[hx] at e; exact Pn (hb _ _ e)
  ·exact KD r n acc h hb
theorem KH {x:Str}:∀(names:List (Str×NameKind)) (n:Nat) (acc:List (Str×Addr)),((x,NameKind.cell)∈names\/(acc.lookup x).isSome=true)->((cellsFrom n names acc).lookup x).isSome=true
 | [],n,acc,h=>by
  rcases h with h | h
  ·simp at h
  ·exact h
 | (name,kind)::r,n,acc,h=>by
  unfold cellsFrom
  split
  ·rename_i hk
   refine KH r (n+1) _ ?_
   rcases h with h | h
   ·rcases bU.mp h with q | q
    ·refine .inr ?_
     rw[tO,(Prod.mk.inj q).1]
     simp
    ·exact .inl q
   ·refine .inr ?_
    rw[tO]
    split
    ·rfl
    ·exact h
  ·rename_i hk
   refine KH r n acc ?_
   rcases h with h | h
   ·rcases bU.mp h with q | q
    ·exact absurd (by rw[<- (Prod.mk.inj q).2]; rfl) hk
    ·exact .inl q
   ·exact .inr h
theorem Ei {x:Str} {c:Addr}:∀(names:List (Str×NameKind)) (n:Nat) (acc:List (Str×Addr)),(x,NameKind.cell)∉names->acc.lookup x=some c->(cellsFrom n names acc).lookup x=some c
 | [],n,acc,_,e=>e
 | (name,kind)::r,n,acc,h,e=>by
  unfold cellsFrom
  split
  ·rename_i hk
   refine Ei r (n+1) _ (fun m=>h (jx _ m)) ?_
   rw[tO]
   cases hx:x==name with
   | true=>
    have hk':kind=.cell:=by simpa using hk
    exact absurd (by rw[beq_iff_eq.mp hx,hk']; exact jT) h
   | false=>exact e
  ·exact Ei r n acc (fun m=>h (jx _ m)) e
theorem yQ {M:Model} {A:Around} {E:Value->Shared->Prop} {s:Shared} {scope:Scope} {globals:Addr} {cl:List (Str×Addr)} {qual:Str} {env:Env} {Q:Env->Shared->Prop}
  (hQ:Q { scope,locals:=s.heap.objs.size,globals,cells:=cellsFrom (s.heap.objs.size+1) scope.names cl,qual,func:=none,code:=env.code,frame:=env.frame,builtins:=env.builtins } { s with heap:=pushCells (s.heap.push { cls:=.type "dict",data:=.dict #[] }) scope.names }) :
  wpAny M A (newFunctionEnv scope globals cl [] qual none .none (some env)) Q E s:=by
 simp only[newFunctionEnv,Option.isSome_some,if_true]
 refine aW (wpAny_alloc ?_)
 refine aW (wpAny_layCells _ (fun name kind cells=>by cases hkc:kind==NameKind.cell <;> simp[hkc]) _ _ _ _ ?_)
 rw[show({ s with heap:=s.heap.push { cls:=.type "dict",data:=.dict #[] } }:Shared).heap.objs.size=s.heap.objs.size+1 from jm ..]
 simp only[List.forIn_nil]
 exact aW (bV (bV hQ))
noncomputable def Ed (X:Cx) (N':List Str) (sc:Scope) (fp:List Addr) (s:Shared) (H:Hp):Cx where
 prog:=X.prog
 w:=X.w
 K:=X.K
 mg:=X.mg
 base:=X.base
 A:=X.A
 N:=N'
 s₀:=s
 H₀:=H
 env:=compEnvC sc (cellsFrom (s.heap.objs.size+1) sc.names (qw sc X.env)) s.heap.objs.size X.env
 outer:=X.stack
 stack:=X.stack
 ex:=fp
 fn:=fun y=>sc.names.lookup y==some .cell
 calm:=X.calm
 pn:=[]
 xe:=fun _ _=>False
structure VB (X:Cx) (nt:Nat) (N':List Str) (js:List Nat) (sc:Scope):Prop where
 kind:sc.kind=.function
 cells:∀y∈sc.names,y.2=.cell->sc.names.lookup y.1=some .cell
 names:∀y∈sc.names,y.2=.local->sc.names.lookup y.1=some .local
 clos:closureFor sc X.env=pure (qw sc X.env)
 all:(sc.names.all fun y=>y.2 != .free || (X.env.cells.lookup y.1).isSome)=true
 len:N'.length=nt+js.length
 cap:∀(i j:Nat),js[i]?=some j->N'[nt+i]?=X.N[j]?
 Vk:∀y∈N'.drop nt,X.env.kindOf y=some .cell/\sc.names.lookup y=some .free
theorem Br {X:Cx} {pins:List (Addr×Obj)} {σ:St} {H:Hp} {s:Shared} {fp:List Addr} {N':List Str} {js:List Nat} {sc:Scope} {nt:Nat} {h1:Heap} {tk:Nat} (I:Inv X pins σ H s) (hf:∀b∈fp,ik X pins H b) (hlt:∀b∈fp,b<s.heap.objs.size)
  (S:VB X nt N' js sc) (Ej:∀{x:Str} {c:Addr},(cellsFrom (s.heap.objs.size+1) sc.names (qw sc X.env)).lookup x=some c->(h1.IsCell c none/\s.heap.objs.size<c)\/((qw sc X.env).lookup x=some c/\(x,NameKind.cell)∉sc.names)) (hn:h1.Ns s.heap.objs.size fun _=>none) (hk:∀b o,s.heap.get? b=some o->h1.get? b=some o):Inv (Ed X N' sc fp s H) [] (List.replicate nt none++b7 js σ) H { s with heap:=h1,toks:=tk }:=by
 have old:∀x c,(qw sc X.env).lookup x=some c->c<s.heap.objs.size+1:=fun x c e=>by
  obtain⟨v,o,ho,_⟩:=I.cell x c (iZ e)
  exact Pn (cC ho)
 refine⟨⟨I.ok.mod,S.kind,I.ok.glob,I.ok.blt,bI _,fun x y c e1 e2=>(KD sc.names _ _ (fun x y c e1 e2=>I.ok.inj x y c (iZ e1) (iZ e2)) old).1 x y c e1 e2,fun x hx=>?_,fun x c hf' e=>(by
   rcases Ej e with z | ⟨_,z⟩
   ·exact jt z.2
   ·exact absurd (PySem.mem_of_lookup (show sc.names.lookup x=some .cell from by simpa using(show(sc.names.lookup x==some NameKind.cell)=true from hf'))) z),I.ok.hd,I.ok.frames,.inl rfl,fun b hb=>⟨gw (hlt b hb),fun x c e=>(by
   rcases Ej e with z | ⟨z,_⟩
   ·exact GD (GC (hlt b hb) z.2)
   ·exact(hf b hb).2.2.2.2.1 x c (iZ z))⟩,I.bs,
  n_ I.ok.Rq I.sz,fun b o e hb=>?_,fun b hb z=>?_,I.stack,I.u_⟩,rfl,I.bare,Un.kept hk,⟨fun _=>none,hn,fun i x v e1 e2 e3=>?_⟩,fun x c e=>?_,I.hok.fresh (bI _),fun x c e=>(by
   rcases Ej e with z | ⟨z,_⟩
   ·exact I.hok.fresh (jt z.2)
   ·exact I.j6 x c (iZ z)),fun p hp=>absurd (show p∈([]:List (Addr×Obj)) from hp) (by simp),I.hok.kept hk,?_⟩
 ·refine zf.mp (KH sc.names _ _ ?_)
  have hx':(relabel sc X.env).names.lookup x=some .cell\/(relabel sc X.env).names.lookup x=some .free:=hx
  have key:(x,NameKind.cell)∈sc.names\/(x,NameKind.free)∈sc.names:=by
   rcases hx' with q | q
   ·obtain⟨k,hm,e | ⟨e,_⟩⟩:=uA q
    ·rw[<- e] at hm; exact .inl hm
    ·refine .inr ?_; rw[<- e]; exact hm
   ·refine .inr ?_
    obtain⟨k,hm,e | ⟨e,_⟩⟩:=uA q
    ·rw[e]; exact hm
    ·rw[<- e]; exact hm
  rcases key with key | key
  ·exact .inl key
  have a:=wN.mp S.all _ key
  have a':(X.env.cells.lookup x).isSome=true:=by simpa using a
  obtain⟨c,hc⟩:=zf.mp a'
  exact .inr (zf.mpr ⟨c,KC hc sc.names [] key⟩)
 ·rcases(hf b hb).2.2.2.1 with z | z
  ·exact I.ok.Hr b o e z
  ·exact absurd (jU (cC e) (n_ I.ok.Rq z)) (tM _)
 ·rcases bU.mp (I.Ji b z) with q | q
  ·exact(hf b hb).2.1 q
  ·exact(hf b hb).2.2.1 q
 ·by_cases hlt:i<nt
  ·rw[Gy (by rw[Gv]; exact hlt),Ti,aP hlt] at e2
   cases e2
  ·obtain⟨i',rfl⟩:∃i',i=nt+i':=⟨i-nt,by omega⟩
   rw[zj (by rw[Gv]; omega),Gv,Nat.add_sub_cancel_left] at e2
   have e2':(b7 js σ)[i']?=some (some v):=e2
   unfold b7 at e2'
   rw[fQ] at e2'
   cases hj:js[i']? with
   | none=>rw[hj] at e2'; simp at e2'
   | some j=>
    rw[hj] at e2'
    have e4:(σ[j]?).join=some v:=by simpa using e2'
    have e5:σ[j]?=some (some v):=by
     cases q:σ[j]? with
     | none=>rw[q] at e4; simp at e4
     | some z=>rw[q] at e4; simp at e4; rw[e4]
    have e6:X.N[j]?=some x:=by rw[<- S.cap i' j hj]; exact e1
    have mem:x∈N'.drop nt:=by
     have e1':N'[nt+i']?=some x:=e1
     exact je (i:=i') (by rw[Ha]; exact e1')
    obtain⟨k1,k2⟩:=S.Vk x mem
    obtain⟨m,_,hl⟩:=I.loc
    obtain⟨u,r,l⟩:=hl j x v e6 e5 (.inr (.inl k1))
    refine⟨u,r,.inr ⟨.inl (qZ I.ok.kind k1 sc.names k2),?_⟩⟩
    rcases l with⟨z,_⟩ | ⟨_,c,hc,hcell⟩
    ·rw[k1] at z; cases z
    ·obtain⟨o,ho,hd⟩:=hcell
     exact⟨c,Ei sc.names _ _ (fun z=>by have:=S.cells _ z rfl; rw[k2] at this; cases this) (KC hc sc.names [] (PySem.mem_of_lookup k2)),o,hk c o ho,hd⟩
 ·rcases Ej e with z | ⟨z,_⟩
  ·exact⟨none,z.1⟩
  ·obtain⟨v,o,ho,hd⟩:=I.cell x c (iZ z)
   exact⟨v,o,hk c o ho,hd⟩
 ·show(List.replicate nt none++b7 js σ).length=N'.length
  rw[S.len]; simp[b7]
theorem Eh:∀{names:List (Str×NameKind)} {n:Nat} {acc:List (Str×Addr)},(∀y∈names,y.2≠.cell)->cellsFrom n names acc=acc
 | [],_,_,_=>rfl
 | (name,kind)::r,n,acc,h=>by
  unfold cellsFrom
  rw[bB (fun z=>h _ jT (by simpa using z))]
  exact Eh fun y hy=>h y (jx _ hy)
theorem yr {X:Cx} {N':List Str} {sc:Scope} {fp:List Addr} {s:Shared} {H:Hp} (h:∀y∈sc.names,y.2≠.cell):qp X N' sc fp s H=Ed X N' sc fp s H:=by
 have e:(fun _:Str=>false)=fun y=>sc.names.lookup y==some .cell:=funext fun y=>by
  cases z:sc.names.lookup y==some NameKind.cell with
  | false=>rfl
  | true=>exact absurd rfl (h _ (PySem.mem_of_lookup (by simpa using z)))
 unfold qp Ed
 rw[Eh h,e]
theorem jz.toD {X:Cx} {nt:Nat} {N':List Str} {js:List Nat} {sc:Scope} (S:jz X nt N' js sc):VB X nt N' js sc:=⟨S.kind,fun y hy e=>absurd e (S.iU y hy),S.names,S.clos,S.all,S.len,S.cap,S.Vk⟩
theorem QC {X:Cx} {pins:List (Addr×Obj)} {σ:St} {H:Hp} {s:Shared} {fp:List Addr} {N':List Str} {js:List Nat} {sc:Scope} {nt:Nat} {h1:Heap} {tk:Nat} (I:Inv X pins σ H s) (hf:∀b∈fp,ik X pins H b) (hlt:∀b∈fp,b<s.heap.objs.size)
  (S:jz X nt N' js sc) (hn:h1.Ns s.heap.objs.size fun _=>none) (hk:∀b o,s.heap.get? b=some o->h1.get? b=some o):Inv (qp X N' sc fp s H) [] (List.replicate nt none++b7 js σ) H { s with heap:=h1,toks:=tk }:=by
 rw[yr S.iU]
 exact Br I hf hlt S.toD (fun {x c} e=>by rw[Eh S.iU] at e; exact .inr ⟨e,fun z=>S.iU _ z rfl⟩) hn hk
structure Fd (X:Cx) (ifs:List Expr) (t:TT):Prop where
 mk ::
 go:∀(pins:List (Addr×Obj)) (s:Shared) (σ:St) (H:Hp) (Q:Bool->Hp->Prop),Inv X pins σ H s->t σ H Q->wpAny (model X.prog X.w) X.A (forIn ifs true fun c r=>if r=true then do let ok <- isTrue c X.env (eval c X.env); pure (ForInStep.yield ok) else pure (ForInStep.yield r)) (TP X pins σ Q) X.xe s
instance {X:Cx} {ifs:List Expr} {t:TT}:CoeFun (Fd X ifs t) (fun _=>
 ∀(pins:List (Addr×Obj)) (s:Shared) (σ:St) (H:Hp) (Q:Bool->Hp->Prop),Inv X pins σ H s->t σ H Q->wpAny (model X.prog X.w) X.A (forIn ifs true fun c r=>if r=true then do let ok <- isTrue c X.env (eval c X.env); pure (ForInStep.yield ok) else pure (ForInStep.yield r)) (TP X pins σ Q) X.xe s):=⟨Fd.go⟩
noncomputable def pY:TT:=fun _ H Q=>Q true H
theorem gF {X:Cx}:Fd X [] pY:=.mk fun pins s σ H Q I h=>wpAny_tests_nil ⟨H,I,h⟩
theorem DY {X:Cx} {c:Expr} {t:TT} (h:PT X c t):Fd X [c] t:=.mk fun pins s σ H Q I q=>wpAny_tests_one (h pins s σ H Q I q)
noncomputable def eV (nt:Nat) (js:List Nat) (wi:TI) (g:TG) (tc:TT) (te:TE):TE:=fun σ H Q=>wi σ H fun J H1=>∀acc,H1 acc=none->∃W:Nat->Nat->List V->Hp->Prop,(∃m,W 0 m [] (upd H1 acc (.lst [])))/\∀i m ys H2,W i m ys H2 ->
 (J.stop i H2/\Q (.ref acc) H2)\/(J.go i H2/\∀x H3,J.vH i H2 x H3->g x (List.replicate nt none++b7 js σ) H3 fun σ' H'=>(σ'.drop nt=b7 js σ/\σ'.length=(List.replicate nt (none:Option V)++b7 js σ).length)/\tc σ' H' fun b cY=>
  if b=true then te σ' cY fun y H4=>H4 acc=some (.lst ys)/\ys.length<sizeLine/\∃m',m'<m/\W (i+1) m' (ys++[y]) (upd H4 acc (.lst (ys++[y]))) else ∃m',m'<m/\W (i+1) m' ys cY)
theorem Eg {prog:Program} {w:World} {A:Around} {R:Result->Shared->Prop} {s:Shared} {elt target iter:Expr} {ifs:List Expr} {sc:Scope} {pos:Pos} {it acc:Value} {env:Env} (Iv:Nat->Shared->Prop)
  (turn:∀n s,Iv n s->wpAny (model prog w) A (pyNext it) (fun r s1=>match r with
   | none=>R (.ok .next) s1
   | some v=>wpAny (model prog w) A (letOwnedTupleGo target it v) (fun _ s2=>wpAny (model prog w) A (assign target env v) (fun _ s3=>
     wpAny (model prog w) A (forIn ifs true fun c r=>if r=true then do let ok <- isTrue c env (eval c env); pure (ForInStep.yield ok) else pure (ForInStep.yield r)) (fun ok s3'=>
     if ok=true then wpAny (model prog w) A (eval elt env) (fun x s4=>
     wpAny (model prog w) A (call (.builtin "list.append") [acc,x]) (fun _ s5=>∃m,m<n/\Iv m s5) (fun _ _=>False) s4) (fun _ _=>False) s3' else ∃m,m<n/\Iv m s3') (fun _ _=>False) s3) (fun _ _=>False) s2) (fun _ _=>False) s1) (fun _ _=>False) s)
  (n:Nat) (h:Iv n s):codeAny (model prog w) A (.compLoop (.ListComp elt [⟨target,iter,ifs,0⟩] sc pos) 0 it acc env) R s:=by
 refine codeAny_loop rfl Iv (fun n s hI=>?_) n h
 show wpAny _ _ ((compTurn (.ListComp elt [⟨target,iter,ifs,0⟩] sc pos) 0 it acc env).onRaise (fun x=>do noteFrame x env; theTreesLotGoes x)) _ _ s
 refine wpAny_noted ?_
 rw[compTurn_list]
 refine aW (Dh (aW (g_ (turn n s hI) (fun r s1 q1=>?_) fun _ _ f=>f.elim)))
 cases r with
 | none=>exact bV q1
 | some v=>
  refine aW (g_ q1 (fun _ s2 q2=>?_) fun _ _ f=>f.elim)
  refine aW (g_ q2 (fun _ s3 q3=>aW (g_ q3 (fun ok s3' q3'=>?_) fun _ _ f=>f.elim)) fun _ _ f=>f.elim)
  cases ok with
  | false=>exact bV ⟨rfl,q3'⟩
  | true=>exact aW (aW (g_ q3' (fun x s4 q4=>aW (g_ q4 (fun _ s5 q5=>bV (bV ⟨rfl,q5⟩)) fun _ _ f=>f.elim)) fun _ _ f=>f.elim))
theorem yw {X:Cx} {elt iter:Expr} {tg:Expr} {ifs:List Expr} {g:TG} {tc:TT} {nt:Nat} {pos:Pos} {sc:Scope} {wi:TI} {te:TE} {N':List Str} {js:List Nat} {use:Option (Value->Sem Unit)} {Qc:Value->Shared->Prop} {pins:List (Addr×Obj)} {s:Shared} {σ:St} {H:Hp} {Q:VK} {kp:Pos} (hc:X.calm=true) (hi:PI X tg iter wi) (S:VB X nt N' js sc)
  (hgt:∀fp s H,PG (Ed X N' sc fp s H) tg g) (hif:∀fp s H,Fd (Ed X N' sc fp s H) ifs tc) (he:∀fp s H,PE (Ed X N' sc fp s H) elt te) (hs:∀x,foldedSetIterable iter X.env x=pure x) (I:Inv X pins σ H s) (h:eV nt js wi g tc te σ H Q)
  (fin:∀(acc C:Addr) (H':Hp) (s':Shared),Inv X pins σ H' s'->ik X pins H' C->(∃m,s'.heap.Ns C m)->Q (.ref acc) H'->compPost (model X.prog X.w) X.A X.xe use Qc (.ref acc) C (.ok .next) s') :
  wpAny (model X.prog X.w) X.A (comprehension (.ListComp elt [⟨tg,iter,ifs,0⟩] sc pos) sc X.env kp (newList []) false (eval iter X.env) use) Qc X.xe s:=by
 refine wpAny_comprehension_free (use:=use) rfl hs S.clos S.kind S.names ?_
 refine cT (hi pins s σ H _ I h) fun v s1 q1=>cT q1 fun itv s2 q2=>?_
 obtain⟨it,fp,tn,J,H2,e,I2,T,st2,f2,q3⟩:=q2
 subst e
 refine uN ?_
 obtain⟨W,⟨m0,w0⟩,turn⟩:=q3 s2.heap.objs.size I2.fresh
 have I3:=I2.Xm (ys:=[]) (its:=[]) (t':=s2.toks) .nil (e_ _)
 have lt2:∀b∈fp,b<s2.heap.objs.size:=fun b hb=>by
  obtain⟨o,ho,_⟩:=T.obj 0 _ st2 b hb
  exact cC ho
 generalize e3:({ s2 with heap:=s2.heap.push { cls:=.type "list",data:=.seq ([]:List Value).toArray },toks:=s2.toks }:Shared)=s3 at I3
 have e3':({ s2 with heap:=s2.heap.push { cls:=.type "list",dict:=none,data:=.seq ([]:List Value).toArray } }:Shared)=s3:=e3
 have sz3:s3.heap.objs.size=s2.heap.objs.size+1:=by rw[<- e3]; exact jm ..
 have st3:tn 0 s3.heap:=T.keep 0 _ _ st2 fun b hb o ho=>by rw[<- e3]; exact dY _ ho
 have lt3:∀b∈fp,b<s3.heap.objs.size:=fun b hb=>by rw[sz3]; exact Pn (lt2 b hb)
 have f3:∀b∈fp,ik X pins (upd H2 s2.heap.objs.size (.lst [])) b:=fun b hb=>⟨by rw[aR (gw (lt2 b hb))]; exact(f2 b hb).1,(f2 b hb).2⟩
 generalize hH3:upd H2 s2.heap.objs.size (.lst [])=H3 at I3 f3 w0
 refine yQ ?_
 generalize eh1:pushCells (s3.heap.push { cls:=.type "dict",data:=.dict #[] }) sc.names=h1
 have hk:∀b o,s3.heap.get? b=some o->h1.get? b=some o:=fun b o q=>by rw[<- eh1]; exact pushCells_keeps _ _ b o (dY _ q)
 have hns':h1.Ns s3.heap.objs.size fun _=>none:=by rw[<- eh1]; exact(Heap.Ns.new s3.heap (.type "dict")).keeps (pushCells_keeps _ _)
 have I4:Inv (Ed X N' sc fp s3 H3) [] (List.replicate nt none++b7 js σ) H3 { s3 with heap:=h1,toks:=s3.toks }:=Br I3 f3 lt3 S (fun {x c} e=>by
  have:=yD sc.names (s3.heap.push { cls:=.type "dict",data:=.dict #[] }) (qw sc X.env) x c (by rw[jm]; exact e)
  rw[eh1,jm] at this
  exact this) hns' hk
 have st4:tn 0 h1:=T.keep 0 _ _ st3 fun b hb o ho=>hk b o ho
 have stat:∀{H':Hp},(∀b∈fp,H' b=none)->∀b∈fp,ik (Ed X N' sc fp s3 H3) [] H' b:=fun hn b hb=>⟨hn b hb,gw (lt3 b hb),I4.ok.Kr b hb,.inl hb,(I4.ok.exf b hb).2,fun p hp=>absurd (show p∈([]:List (Addr×Obj)) from hp) (by simp)⟩
 have out:∀{σ':St} {H':Hp} {s':Shared},Inv (Ed X N' sc fp s3 H3) [] σ' H' s'->Q (.ref s2.heap.objs.size) H'->compPost (model X.prog X.w) X.A X.xe use Qc (.ref s2.heap.objs.size) s3.heap.objs.size (.ok .next) s':=by
  intro σ' H' s' I' q'
  obtain⟨m,hn,_⟩:=id I'.loc
  have I5:Inv X pins σ H' s':=I3.call' I'.os I'.base I'.hok I'.bare fun b hb=>⟨(f3 b hb).2.2.2.1,(f3 b hb).2.1,(f3 b hb).2.2.2.2.1,(f3 b hb).2.2.2.2.2⟩
  exact fin _ _ H' s' I5 (I3.tY (bI _) I'.free) ⟨m,hn⟩ q'
 have loop:∀s4:Shared,s4={ s3 with heap:=h1,toks:=s3.toks }->codeAny (model X.prog X.w) X.A (.compLoop (.ListComp elt [⟨tg,iter,ifs,0⟩] sc pos) 0 (.ref it) (.ref s2.heap.objs.size) (compEnvC sc (cellsFrom (s3.heap.objs.size+1) sc.names (qw sc X.env)) s3.heap.objs.size X.env))
   (compPost (model X.prog X.w) X.A X.xe use Qc (.ref s2.heap.objs.size) s3.heap.objs.size) s4:=by
  rintro s4 rfl
  refine Eg (fun n s'=>∃i ys H',Inv (Ed X N' sc fp s3 H3) [] (List.replicate nt none++b7 js σ) H' s'/\tn i s'.heap/\(∀b∈fp,H' b=none)/\W i n ys H') ?_ m0 ⟨0,[],H3,I4,st4,fun b hb=>(f3 b hb).1,w0⟩
  rintro n s5 ⟨i,ys,H5,I5,Wj,fr5,w5⟩
  rcases turn i n ys H5 w5 with⟨stop,qn⟩ | ⟨go,step⟩
  ·refine cT (T.done (Ed X N' sc fp s3 H3) rfl rfl rfl hc i [] s5 _ H5 (fun _ _=>False) I5 (stat fr5) Wj stop) fun r s6 qx=>?_
   obtain⟨hr,I6⟩:=qx
   subst hr
   exact out I6 qn
  ·refine cT (T.item (Ed X N' sc fp s3 H3) rfl rfl rfl hc i [] s5 _ H5 (fun _ _=>False) I5 (stat fr5) Wj go) fun r s6 qx=>?_
   obtain⟨u,hr,q6⟩:=qx
   subst hr
   refine cT q6 fun _ s7 qx=>?_
   obtain⟨y,H7,I7,r7,y7,Wi,fr7⟩:=qx
   have I7':=I7.pinned (stat fr7) (T.obj _ _ Wi)
   refine cT (hgt fp s3 H3 _ s7 _ H7 y u _ I7' r7 (step y _ y7)) fun _ s8 qx=>?_
   obtain⟨σ8,H8,I8,hsh,q8⟩:=qx
   refine cT (hif fp s3 H3 _ s8 _ _ _ I8 q8) fun b s8' qx=>?_
   obtain⟨H8',I8',q8'⟩:=qx
   have wk:∀k v,(List.replicate nt none++b7 js σ)[k]?=some (some v)->σ8[k]?=some (some v):=fun k v e=>by
    by_cases hlt:k<nt
    ·rw[Gy (by rw[Gv]; exact hlt),Ti,aP hlt] at e
     cases e
    ·rw[zj (by rw[Gv]; omega),Gv,<- hsh.1,Ha] at e
     rw[show nt+(k-nt)=k by omega] at e
     exact e
   cases b with
   | true=>
    rw[aP rfl] at q8' ⊢
    refine cT (he fp s3 H3 _ s8' _ _ _ I8' q8') fun z s9 qx=>?_
    obtain⟨vz,H9,I9,r9,ha,hz,m',hm,w9⟩:=qx
    refine cT (fG (X:=Ed X N' sc fp s3 H3) _ s9 _ H9 (.ref s2.heap.objs.size) [vz] (.ref s2.heap.objs.size) [z] (fun _ H'=>H'=upd H9 s2.heap.objs.size (.lst (ys++[vz]))) I9 rfl (.cons r9 .nil) ⟨_,ys,vz,rfl,rfl,ha,hz,rfl⟩) fun _ nq qx=>?_
    obtain⟨_,uL,I10,_,e10⟩:=qx
    subst e10
    refine⟨m',hm,i+1,ys++[vz],_,(I10.jc).weak hsh.2.symm wk,T.keep _ _ _ Wi fun b hb o e=>(I10.pin (b,o) (jf _ (jf _ (dD hb e)))).1,fun b hb=>?_,w9⟩
    obtain⟨o,e,d⟩:=T.obj _ _ Wi b hb
    exact(I10.pin (b,o) (jf _ (jf _ (dD hb e)))).2.1
   | false=>
    rw[bB (by decide)] at q8' ⊢
    obtain⟨m',hm,w9⟩:=q8'
    refine⟨m',hm,i+1,ys,_,(I8'.jc).weak hsh.2.symm wk,T.keep _ _ _ Wi fun b hb o e=>(I8'.pin (b,o) (jf _ (jf _ (dD hb e)))).1,fun b hb=>?_,w9⟩
    obtain⟨o,e,d⟩:=T.obj _ _ Wi b hb
    exact(I8'.pin (b,o) (jf _ (jf _ (dD hb e)))).2.1
 exact codeAny_compStart_list (loop _ rfl) (T.self X.A 0 _ _ _ st4 (loop _ rfl))
theorem Tr {X:Cx} {elt iter:Expr} {tg:Expr} {ifs:List Expr} {g:TG} {tc:TT} {nt:Nat} {y:Str} {py pos spos:Pos} {sc:Scope} {wi:TI} {te:TE} {N':List Str} {js:List Nat} {i:Nat} (hN:X.N.Nodup) (hi':X.N[i]?=some y) (hy:Loc X.env.scope y) (hc:X.calm=true) (hi:PI X tg iter wi) (S:VB X nt N' js sc)
  (hgt:∀fp s H,PG (Ed X N' sc fp s H) tg g) (hif:∀fp s H,Fd (Ed X N' sc fp s H) ifs tc) (he:∀fp s H,PE (Ed X N' sc fp s H) elt te) (hs:∀x,foldedSetIterable iter X.env x=pure x:=by intro _; rfl) (hw:swapsWith (.ListComp elt [⟨tg,iter,ifs,0⟩] sc pos) (some (.Name y py)) spos.line X.env=pure true:=by rfl)
  (hf:X.fn y=true\/X.env.scope.names.lookup y=some .local:=by first | exact .inl rfl | exact .inr rfl | assumption) :
  PS X (.Assign [.Name y py] (.ListComp elt [⟨tg,iter,ifs,0⟩] sc pos) spos) (FQ (eV nt js wi g tc te) (eU i)):=by
 refine .mk ?_
 intro pins s σ H D I h
 rw[exec_Assign_Name_used _ _ _ _ hw]
 refine aW (Dh (aW ?_))
 refine aW (yw hc hi S hgt hif he hs I h fun acc C H' s' I5 fc ⟨m,hn⟩ q=>?_)
 have ho:∀b∈[C],∃o,s'.heap.get? b=some o/\∀v,o.data≠.cell v:=fun b hb=>by
  rw[fH.mp hb]
  obtain⟨o,es,n,e,ed,_⟩:=hn
  exact⟨o,e,fun v z=>by rw[ed] at z; cases z⟩
 have I6:=I5.pinned (fp:=[C]) (fun b hb=>by rw[fH.mp hb]; exact fc) ho
 have hg:PG X (.Name y py) (eU i):=aF hN hi' hy hf
 show wpAny _ _ (assign (.Name y py) X.env (.ref acc)) (fun _ s''=>∃m,s''.heap.Ns C m/\∀h',Heap.SameBut C s''.heap h'->_) _ s'
 refine cT (hg _ s' _ H' (.ref acc) (.ref acc) _ I6 rfl q) fun _ s7 qx=>?_
 obtain⟨σ7,H7,I7,q7⟩:=qx
 have pc:∀o,s'.heap.get? C=some o->s7.heap.get? C=some o/\H7 C=none:=fun o e=>by
  have:=I7.pin (C,o) (jf _ (jf _ (dD (by simp) e)))
  exact⟨this.1,this.2.1⟩
 refine⟨m,hn.at fun o e=>(pc o e).1,fun h' sb=>bV (bV ⟨σ7,H7,?_,q7⟩)⟩
 have fr:H7 C=none:=by
  obtain⟨o,es,n,e,ed,_⟩:=hn
  exact(pc o e).2
 exact I7.jc.turned (it:=C) (t':=s7.toks) (fun b o hb e=>sb.extBut b o hb e) fr fc.2.1 fc.2.2.2.1 fc.2.2.2.2.1 fc.2.2.2.2.2
theorem TF {X:Cx} {elt iter tg:Expr} {ifs:List Expr} {g:TG} {tc:TT} {nt:Nat} {pos:Pos} {sc:Scope} {wi:TI} {te:TE} {N':List Str} {js:List Nat} (hc:X.calm=true) (hi:PI X tg iter wi) (S:VB X nt N' js sc)
  (hgt:∀fp s H,PG (Ed X N' sc fp s H) tg g) (hif:∀fp s H,Fd (Ed X N' sc fp s H) ifs tc) (he:∀fp s H,PE (Ed X N' sc fp s H) elt te) (hs:∀x,foldedSetIterable iter X.env x=pure x:=by intro _; rfl):PE X (.ListComp elt [⟨tg,iter,ifs,0⟩] sc pos) (eV nt js wi g tc te):=by
 refine .mk ?_
 intro pins s σ H Q I h
 rw[eval_ListComp]
 refine yw (use:=none) hc hi S hgt hif he hs I h fun acc C H' s' I5 fc ⟨m,hn⟩ q=>?_
 refine⟨m,hn,fun h' sb=>?_⟩
 exact⟨.ref acc,H',I5.turned (it:=C) (t':=s'.toks) (fun b o hb q=>sb.extBut b o hb q) fc.1 fc.2.1 fc.2.2.2.1 fc.2.2.2.2.1 fc.2.2.2.2.2,rfl,q⟩
theorem w6 {X:Cx} {elt iter:Expr} {tg:Expr} {ifs:List Expr} {g:TG} {tc:TT} {nt:Nat} {y:Str} {py pos spos:Pos} {sc:Scope} {wi:TI} {te:TE} {N':List Str} {js:List Nat} {i:Nat} (hN:X.N.Nodup) (hi':X.N[i]?=some y) (hy:Loc X.env.scope y) (hc:X.calm=true) (hi:PI X tg iter wi) (S:jz X nt N' js sc)
  (hgt:∀fp s H,PG (qp X N' sc fp s H) tg g) (hif:∀fp s H,Fd (qp X N' sc fp s H) ifs tc) (he:∀fp s H,PE (qp X N' sc fp s H) elt te) (hs:∀x,foldedSetIterable iter X.env x=pure x:=by intro _; rfl) (hw:swapsWith (.ListComp elt [⟨tg,iter,ifs,0⟩] sc pos) (some (.Name y py)) spos.line X.env=pure true:=by rfl)
  (hf:X.fn y=true\/X.env.scope.names.lookup y=some .local:=by first | exact .inl rfl | exact .inr rfl | assumption) :
  PS X (.Assign [.Name y py] (.ListComp elt [⟨tg,iter,ifs,0⟩] sc pos) spos) (FQ (eV nt js wi g tc te) (eU i)):=Tr hN hi' hy hc hi S.toD (fun fp s H=>yr S.iU▸hgt fp s H) (fun fp s H=>yr S.iU▸hif fp s H) (fun fp s H=>yr S.iU▸he fp s H) hs hw hf
theorem fu {X:Cx} {elt iter tg:Expr} {ifs:List Expr} {g:TG} {tc:TT} {nt:Nat} {pos:Pos} {sc:Scope} {wi:TI} {te:TE} {N':List Str} {js:List Nat} (hc:X.calm=true) (hi:PI X tg iter wi) (S:jz X nt N' js sc)
  (hgt:∀fp s H,PG (qp X N' sc fp s H) tg g) (hif:∀fp s H,Fd (qp X N' sc fp s H) ifs tc) (he:∀fp s H,PE (qp X N' sc fp s H) elt te) (hs:∀x,foldedSetIterable iter X.env x=pure x:=by intro _; rfl):PE X (.ListComp elt [⟨tg,iter,ifs,0⟩] sc pos) (eV nt js wi g tc te):=TF hc hi S.toD (fun fp s H=>yr S.iU▸hgt fp s H) (fun fp s H=>yr S.iU▸hif fp s H) (fun fp s H=>yr S.iU▸he fp s H) hs
theorem yP.toG {X:Cx} {N':List Str} {js:List Nat} {sc:Scope} (S:yP X N' js sc):jz X 1 N' js sc:=⟨S.kind,S.iU,S.names,S.clos,S.all,by rw[S.len,Nat.add_comm],fun i j h=>by rw[Nat.add_comm]; exact S.cap i j h,fun y h=>S.Vk y (by rw[<- List.drop_one]; exact h)⟩
theorem Lh {js:List Nat} {wi:TI} {te:TE}:ir js wi te=eV 1 js wi (eU 0) pY te:=by
 funext σ H Q
 have e:∀(x:V) (H3:Hp) (K1:VK) (K2:Hp->Prop),te (some x::b7 js σ) H3 K1=eU 0 x (List.replicate 1 none++b7 js σ) H3 fun σ' H'=>(σ'.drop 1=b7 js σ/\σ'.length=(List.replicate 1 (none:Option V)++b7 js σ).length)/\pY σ' H' fun b cY=>if b=true then te σ' cY K1 else K2 cY:=fun x H3 K1 K2=>propext ⟨fun h=>⟨⟨rfl,rfl⟩,h⟩,fun h=>h.2⟩
 unfold ir eV
 refine nZ (wi σ H) (funext fun J=>funext fun H1=>?_)
 refine propext ⟨fun h acc ha=>?_,fun h acc ha=>?_⟩
 ·obtain⟨W,h0,hs⟩:=h acc ha
  refine⟨W,h0,fun i m ys H2 w=>(hs i m ys H2 w).imp id fun z=>⟨z.1,fun x H3 y=>?_⟩⟩
  have:=z.2 x H3 y
  rw[e x H3 _ fun cY=>∃m',m'<m/\W (i+1) m' ys cY] at this
  exact this
 ·obtain⟨W,h0,hs⟩:=h acc ha
  refine⟨W,h0,fun i m ys H2 w=>(hs i m ys H2 w).imp id fun z=>⟨z.1,fun x H3 y=>?_⟩⟩
  rw[e x H3 _ fun cY=>∃m',m'<m/\W (i+1) m' ys cY]
  exact z.2 x H3 y
theorem jY {X:Cx} {elt iter:Expr} {x:Str} {px pos:Pos} {sc:Scope} {wi:TI} {te:TE} {N':List Str} {js:List Nat} (hc:X.calm=true) (hi:PI X (.Name x px) iter wi) (S:yP X N' js sc) (h0:N'[0]?=some x) (nd:N'.Nodup)
  (hx:sc.names.lookup x=some .local) (he:∀fp s H,PE (qp X N' sc fp s H) elt te) (hs:∀x,foldedSetIterable iter X.env x=pure x:=by intro _; rfl):PE X (.ListComp elt [⟨.Name x px,iter,[],0⟩] sc pos) (ir js wi te):=by
 rw[Lh]
 exact fu hc hi S.toG (fun _ _ _=>aF nd h0 (.inl (iJ hx)) (.inr (iJ hx))) (fun _ _ _=>gF) he hs
theorem vg {X:Cx} {elt iter:Expr} {x y:Str} {px py pos spos:Pos} {sc:Scope} {wi:TI} {te:TE} {N':List Str} {js:List Nat} {i:Nat} (hN:X.N.Nodup) (hi':X.N[i]?=some y) (hy:Loc X.env.scope y) (hc:X.calm=true) (hi:PI X (.Name x px) iter wi) (S:yP X N' js sc) (h0:N'[0]?=some x) (nd:N'.Nodup)
  (hx:sc.names.lookup x=some .local) (he:∀fp s H,PE (qp X N' sc fp s H) elt te) (hs:∀x,foldedSetIterable iter X.env x=pure x:=by intro _; rfl) (hw:swapsWith (.ListComp elt [⟨.Name x px,iter,[],0⟩] sc pos) (some (.Name y py)) spos.line X.env=pure true:=by rfl)
  (hf:X.fn y=true\/X.env.scope.names.lookup y=some .local:=by first | exact .inl rfl | exact .inr rfl | assumption) :
  PS X (.Assign [.Name y py] (.ListComp elt [⟨.Name x px,iter,[],0⟩] sc pos) spos) (FQ (ir js wi te) (eU i)):=by
 rw[Lh]
 exact w6 hN hi' hy hc hi S.toG (fun _ _ _=>aF nd h0 (.inl (iJ hx)) (.inr (iJ hx))) (fun _ _ _=>gF) he hs hw hf
theorem jz.of {X:Cx} {nt:Nat} {N':List Str} {js:List Nat} {sc:Scope} (k:sc.kind=.function:=by rfl) (n:(sc.names.all fun y=>y.2 != .cell)=true:=by decide +kernel)
  (l:(sc.names.all fun y=>y.2 != .local || sc.names.lookup y.1==some .local)=true:=by decide +kernel) (al:(sc.names.all fun y=>y.2 != .free || (X.env.cells.lookup y.1).isSome)=true:=by rfl)
  (ln:N'.length=nt+js.length:=by rfl) (cp:(N'.drop nt).map some=js.map (fun j=>X.N[j]?):=by rfl) (ck:((N'.drop nt).all fun y=>X.env.kindOf y==some .cell&&sc.names.lookup y==some .free)=true:=by rfl):jz X nt N' js sc:=by
 have n':∀y∈sc.names,y.2≠.cell:=fun y hy=>by have:=wN.mp n y hy; simpa using this
 refine⟨k,n',rH l,mO al,al,ln,fun i j h=>?_,fun y h=>?_⟩
 ·have:=nZ (fun l=>l[i]?) cp
  simp only[fQ,Ha,h,A_] at this
  cases e:N'[nt+i]? with
  | none=>rw[e] at this; cases this
  | some y=>rw[e] at this; exact Option.some.inj this
 ·have:=wN.mp ck y h
  simpa using this
noncomputable def LCK (K:PySem.W.Frag) (js:List Nat) (te:TE) (σ:St) (Q:VK) (x:V) (H1:Hp):Prop:=ir js (x_ K fun _ H R=>R x H) te σ H1 Q
theorem O7 {K:PySem.W.Frag} {js:List Nat} {tl te:TE} {σ:St} {H:Hp} {Q:VK}:ir js (x_ K tl) te σ H Q=tl σ H (LCK K js te σ Q):=rfl
theorem LCK.of {K:PySem.W.Frag} {js:List Nat} {a:Addr} {xs:List V} {es:List PyData} {te:TE} {σ:St} {H:Hp} {Q:VK} (ha:H a=some (.lst xs)) (hn:es.length=xs.length) (hz:es.length<=sizeLine) (hL:bN es=true)
  (step:∀(i:Nat) x e H',xs[i]?=some x->es[i]?=some e->aG H H'->∀R:VK,(∀v cY,aG H' cY->At cY e v->R v cY)->te (some x::b7 js σ) H' R)
  (fin:∀acc ys H',aG H H'->H acc=none->H' acc=some (.lst ys)->ak (hid acc H') es ys->Q (.ref acc) H'):LCK K js te σ Q (.ref a) H:=Ef (fun R h=>h) ha hn hz hL step fin
theorem XQ {K:PySem.W.Frag} {js:List Nat} {a:Addr} {xs:List V} {es:List PyData} {tl te:TE} {σ:St} {H:Hp} {Q:VK} (hl:∀R:VK,R (.ref a) H->tl σ H R) (ha:H a=some (.tup xs)) (hn:es.length=xs.length) (hz:es.length<=sizeLine) (hL:bN es=true)
  (step:∀(i:Nat) x e H',xs[i]?=some x->es[i]?=some e->aG H H'->∀R:VK,(∀v cY,aG H' cY->At cY e v->R v cY)->te (some x::b7 js σ) H' R)
  (fin:∀acc ys H',aG H H'->H acc=none->H' acc=some (.lst ys)->ak (hid acc H') es ys->Q (.ref acc) H'):ir js (xZ K tl) te σ H Q:=by
 refine hl _ ⟨a,rfl,⟨xs,cB.of ha⟩,fun acc hacc=>?_⟩
 refine⟨fun i m ys H2=>m=es.length-i/\i<=es.length/\ak (hid acc H2) (es.take i) ys/\aG H H2/\H2 acc=some (.lst ys),⟨_,rfl,e_ _,ak.nil,aM hacc _,aC⟩,?_⟩
 rintro i m ys H2 ⟨rfl,hi,hA,sm,hy⟩
 have ht:cB K H2 a xs:=cB.of (sm _ _ ha)
 by_cases hlt:i<es.length
 ·refine .inr ⟨⟨xs,xs[i]'(by omega),ht,fD (by omega)⟩,fun x H3 y=>?_⟩
  obtain⟨e,y⟩:=y
  subst e
  have e1:es[i]?=some es[i]:=fD hlt
  refine step i x _ _ (y xs ht) e1 sm _ fun v H4 s4 a4=>⟨s4 _ _ hy,?_,es.length-(i+1),by omega,rfl,hlt,?_,?_,aC⟩
  ·rw[hA.length,jG]; omega
  ·rw[iD,Dj,e1]
   exact ak.append (hA.mono (aG.hid s4)) (ak.cons (At.uT (s4 _ _ hy) _ _ (jM hL e1) a4) ak.nil)
  ·refine fun b o q=>?_
   have nb:b≠acc:=bQ q hacc
   rw[aR nb]
   exact s4 _ _ (sm _ _ q)
 ·have e:i=es.length:=by omega
  subst e
  rw[pL] at hA
  exact .inl ⟨⟨xs,ht,by omega⟩,fin _ _ _ sm hacc hy hA⟩
theorem BJ (kp:Nat->Bool) (f:Nat->V) (i:Nat):((List.range (i+1)).filter kp).map f=((List.range i).filter kp).map f++(if kp i=true then[f i] else[]):=by
 rw[GZ,List.filter_append,iu]
 cases h:kp i <;> simp[h]
theorem U9 (kp:Nat->Bool) (f:Nat->V) (i:Nat):(((List.range i).filter kp).map f).length<=i:=by
 rw[bM]
 exact n_ (List.length_filter_le _ _) (by rw[Be]; exact bI _)
theorem yz {js:List Nat} {J:It} {tc:TT} {te:TE} {σ:St} {H:Hp} {Q:VK} {acc:Addr} {n:Nat} (xv:Nat->V) (kp:Nat->Bool) (f:Nat->V) (hn:n<=1000) (hacc:H acc=none)
  (go:∀i H',i<n->aG H H'->J.go i H') (yl:∀i H' x cY,i<n->aG H H'->J.vH i H' x cY->x=xv i/\cY=H') (st:∀H',aG H H'->J.stop n H')
  (test:∀i H',i<n->aG H H'->∀R:Bool->Hp->Prop,R (kp i) H'->tc (some (xv i)::b7 js σ) H' R)
  (val:∀i H',i<n->kp i=true->aG H H'->∀R:VK,R (f i) H'->te (some (xv i)::b7 js σ) H' R)
  (fin:∀H',aG H H'->H' acc=some (.lst (((List.range n).filter kp).map f))->Q (.ref acc) H') :
  ∃W:Nat->Nat->List V->Hp->Prop,(∃m,W 0 m [] (upd H acc (.lst [])))/\∀i m ys H2,W i m ys H2 ->
   (J.stop i H2/\Q (.ref acc) H2)\/(J.go i H2/\∀x H3,J.vH i H2 x H3->eU 0 x (List.replicate 1 none++b7 js σ) H3 fun σ' H'=>(σ'.drop 1=b7 js σ/\σ'.length=(List.replicate 1 (none:Option V)++b7 js σ).length)/\tc σ' H' fun b cY=>
    if b=true then te σ' cY fun y H4=>H4 acc=some (.lst ys)/\ys.length<sizeLine/\∃m',m'<m/\W (i+1) m' (ys++[y]) (upd H4 acc (.lst (ys++[y]))) else ∃m',m'<m/\W (i+1) m' ys cY):=by
 refine⟨fun i m ys H2=>m=n-i/\i<=n/\ys=((List.range i).filter kp).map f/\aG H H2/\H2 acc=some (.lst ys),⟨_,rfl,e_ _,rfl,aM hacc _,aC⟩,?_⟩
 rintro i m ys H2 ⟨rfl,hi,rfl,sm,hy⟩
 by_cases hlt:i<n
 ·refine .inr ⟨go i H2 hlt sm,fun x H3 y=>?_⟩
  obtain⟨rfl,rfl⟩:=yl i H2 x H3 hlt sm y
  refine⟨⟨rfl,by simp⟩,?_⟩
  refine test i _ hlt sm _ ?_
  have hs:=BJ kp f i
  cases h:kp i with
  | true=>
   rw[aP rfl]
   rw[h,aP rfl] at hs
   refine val i _ hlt h sm _ ⟨hy,bu (by have:=U9 kp f i; omega),n-(i+1),by omega,rfl,hlt,hs.symm,sm.eZ hacc,aC⟩
  | false=>
   rw[bB (by decide)]
   rw[h,bB (by decide),lJ] at hs
   exact⟨n-(i+1),by omega,rfl,hlt,hs.symm,sm,hy⟩
 ·have e:i=n:=by omega
  subst e
  exact .inl ⟨st _ sm,fin _ sm hy⟩
theorem Oe {K:PySem.W.Frag} {js:List Nat} {a:Addr} {xs:List V} {tl:TE} {tc:TT} {te:TE} {σ:St} {H:Hp} {Q:VK} (kp:Nat->Bool) (f:Nat->V) (hl:∀R:VK,R (.ref a) H->tl σ H R) (ha:H a=some (.lst xs)) (hn:xs.length<=1000)
  (test:∀i x H',xs[i]?=some x->aG H H'->∀R:Bool->Hp->Prop,R (kp i) H'->tc (some x::b7 js σ) H' R)
  (val:∀i x H',xs[i]?=some x->kp i=true->aG H H'->∀R:VK,R (f i) H'->te (some x::b7 js σ) H' R)
  (fin:∀acc H',aG H H'->H acc=none->H' acc=some (.lst (((List.range xs.length).filter kp).map f))->Q (.ref acc) H'):eV 1 js (x_ K tl) (eU 0) tc te σ H Q:=by
 refine hl _ ⟨a,rfl,⟨xs,dh.of ha⟩,fun acc hacc=>?_⟩
 have ht:∀H',aG H H'->dh K H' a xs:=fun H' s=>dh.of (s _ _ ha)
 have gx:∀i,i<xs.length->xs[i]?=some (xs.getD i .non):=fun i hi=>by rw[gC,fD hi]; rfl
 exact yz (n:=xs.length) (fun i=>xs.getD i .non) kp f hn hacc (fun i H' hi s=>⟨xs,_,ht H' s,gx i hi⟩) (fun i H' x cY hi s y=>by
   obtain⟨e,y⟩:=y
   have:=y xs (ht H' s)
   rw[gx i hi] at this
   exact⟨(Option.some.inj this).symm,e⟩) (fun H' s=>⟨xs,ht H' s,bI _⟩)
  (fun i H' hi s R hR=>test i _ H' (gx i hi) s R hR) (fun i H' hi hk s R hR=>val i _ H' (gx i hi) hk s R hR) fun H' s h=>fin acc H' s hacc h
theorem XR {js:List Nat} {ta:TA} {tc:TT} {te:TE} {σ:St} {H:Hp} {Q:VK} {n:Nat} (kp:Nat->Bool) (f:Nat->V) (hl:∀R:List V->Hp->Prop,R [.int n] H->ta σ H R) (hn:n<=1000)
  (test:∀i H',i<n->aG H H'->∀R:Bool->Hp->Prop,R (kp i) H'->tc (some (.int (0+(i:Nat)))::b7 js σ) H' R)
  (val:∀i H',i<n->kp i=true->aG H H'->∀R:VK,R (f i) H'->te (some (.int (0+(i:Nat)))::b7 js σ) H' R)
  (fin:∀acc H',aG H H'->H acc=none->H' acc=some (.lst (((List.range n).filter kp).map f))->Q (.ref acc) H'):eV 1 js (Bs ta) (eU 0) tc te σ H Q:=by
 refine hl _ ⟨n,rfl,by omega,by omega,fun acc hacc=>?_⟩
 have en:((n:Int)).toNat=n:=tQ n
 rw[en]
 exact yz (n:=n) (fun i=>.int (0+(i:Nat))) kp f hn hacc (fun i H' hi s=>hi) (fun i H' x cY hi s y=>⟨y.2,y.1⟩) (fun H' s=>bI _) test val fun H' s h=>fin acc H' s hacc h
section
variable {prog:Program} {w:World} {A:Around} {E:Value->Shared->Prop} {s:Shared}
theorem _root_.PySem.Heap.ExtBut.trans' {b:Addr} {h h1 h2:Heap} (x:Heap.ExtBut b h h1) (y:∀c o,h1.get? c=some o->h2.get? c=some o):Heap.ExtBut b h h2:=fun c o n e=>y c o (x c o n e)
theorem O9 {α:Type} {Q:α->Shared->Prop} (hh:A.handled=none) (q:∀h' x,(∀c o,s.heap.get? c=some o->h'.get? c=some o)->(∃o,h'.get? x=some o/\o.cls=.type "StopIteration")->E (.ref x) { s with heap:=h' }) :
  wpAny (model prog w) A (Builtin.SmallTypes.stopIteration (α:=α)) Q E s:=by
 unfold Builtin.SmallTypes.stopIteration
 refine aW ?_
 simp only[newExc,newTuple]
 refine aW (uN ?_ (by size_fits)); refine aW (m:=firstArgMember _ _) (tL (a:=Value.none) (by rfl) ?_)
 refine uN ?_ (by size_fits); simp only[raiseNew]
 refine aW (wpAny_handled ?_); rw[hh]
 refine aW (bV (wpAny_throw ?_)); refine q _ _ (fun c o e=>?_) ⟨_,dJ _ rfl,rfl⟩
 exact dY _ (dY _ e)
theorem aaw {it t:Addr} {i:Nat} {its:Array Value} {u:Value} {Q:Value->Shared->Prop} (hi:s.heap.IsTupleIter it t i) (ht:s.heap.IsTuple t its) (hu:its[i]?=some u)
  (q:∀h',h'.IsTupleIter it t (i+1)->Heap.SameBut it s.heap h'->Q u { s with heap:=h' }):wpAny (model prog w) A (Builtin.SmallTypes.nextOf (.ref it)) Q E s:=by
 obtain⟨oi,gi,ci,di⟩:=id hi
 obtain⟨ot,gt,_,nt,dt⟩:=ht
 have ty:=hi.typeIs
 have nn:¬((Value.ref t==Value.none)=true):=fun z=>Bool.noConfusion (show false=true from z)
 unfold Builtin.SmallTypes.nextOf
 refine aW (PB (name:=Str.ofString "__next__") ty F.slot_tuple_iterator_next (wQ F.slot_tuple_iterator_next ty F.entry_tuple_iterator_next ?_ (F.args_tuple_iterator_next_1 _)))
 show wpAny _ _ (field (.ref it) 0 >>= _) _ _ s; refine aW (jE gi di (x:=.ref t) rfl ?_)
 show wpAny _ _ (if(Value.ref t==Value.none)=true then _ else _) _ _ s; rw[bB nn]
 show wpAny _ _ (field (.ref it) 1 >>= _) _ _ s; refine aW (jE gi di (x:=.int i 0) rfl ?_)
 show wpAny _ _ (seqItems? (.ref t) >>= _) _ _ s; refine aW (rm gt dt ?_)
 simp only[tQ,hu]
 have fin:∀h',(∃o,h'.get? it=some o/\o.cls=.type "tuple_iterator" /\ o.data=.fields #[.ref t,.int ((i+1:Nat):Int) 0])->Heap.SameBut it s.heap h'->Q u { s with heap:=h' }:=fun h' z sb=>q h' z sb
 refine aW (Ax gi di (by simp) (bV ⟨u,rfl,bV (fin _ ?_ (Mr ..))⟩))
 refine⟨_,zb _ gi (Obj.isFreed_of_fields (Obj.data_mapFields di _)),(Obj.cls_mapFields ..).trans ci,?_⟩
 rw[Obj.data_mapFields di]
 simp[rawInt]
theorem W_ {it t:Addr} {i:Nat} {its:Array Value} {Q:Value->Shared->Prop} (hh:A.handled=none) (hi:s.heap.IsTupleIter it t i) (ht:s.heap.IsTuple t its) (hu:its[i]?=none)
  (q:∀h' x,Heap.ExtBut it s.heap h'->(∃o,h'.get? x=some o/\o.cls=.type "StopIteration")->E (.ref x) { s with heap:=h' }):wpAny (model prog w) A (Builtin.SmallTypes.nextOf (.ref it)) Q E s:=by
 obtain⟨oi,gi,ci,di⟩:=id hi
 obtain⟨ot,gt,_,nt,dt⟩:=ht
 have ty:=hi.typeIs
 have nn:¬((Value.ref t==Value.none)=true):=fun z=>Bool.noConfusion (show false=true from z)
 unfold Builtin.SmallTypes.nextOf
 refine aW (PB (name:=Str.ofString "__next__") ty F.slot_tuple_iterator_next (wQ F.slot_tuple_iterator_next ty F.entry_tuple_iterator_next ?_ (F.args_tuple_iterator_next_1 _)))
 show wpAny _ _ (field (.ref it) 0 >>= _) _ _ s; refine aW (jE gi di (x:=.ref t) rfl ?_)
 show wpAny _ _ (if(Value.ref t==Value.none)=true then _ else _) _ _ s; rw[bB nn]
 show wpAny _ _ (field (.ref it) 1 >>= _) _ _ s; refine aW (jE gi di (x:=.int i 0) rfl ?_)
 show wpAny _ _ (seqItems? (.ref t) >>= _) _ _ s; refine aW (rm gt dt ?_)
 simp only[tQ,hu]
 refine aW (rB (aW (Ax gi di (by simp) ?_)))
 exact O9 (A:=A.in1) hh fun h' x k z=>q h' x ((Mr ..).extBut.trans' k) z
end
theorem t_ {prog:Program} {w:World} {A:Around} (hh:A.handled=none) {it t:Addr} (ne:t≠it) (its:Array Value):Draws prog w A it [it,t] its.size (fun i v=>its[i]?=some v) (fun i h=>h.IsTupleIter it t i/\h.IsTuple t its) where
 live:=fun i h z=>let ⟨⟨o,e,_⟩,_⟩:=z; ⟨o,e⟩
 frame:=fun i h h' z k=>⟨z.1.at fun o e=>k it jT o e,z.2.at fun o e=>k t (jx _ jT) o e⟩
 item:=fun i s Q E hi z q=>by
  refine aaw z.1 z.2 (u:=its[i]) (Gx hi) fun h' z' sb=>?_
  exact q _ h' s.toks (Gx hi) ⟨z',z.2.extBut sb.extBut ne⟩ sb
 done:=fun s Q E z q=>W_ hh z.1 z.2 (by simp) q
noncomputable abbrev tiH (h:Heap) (t:Addr):Heap:=h.push { cls:=.type "tuple_iterator",data:=.fields #[.ref t,.int 0 0] }
noncomputable abbrev enH (h:Heap) (t:Addr):Heap:=(tiH h t).push { cls:=.type "enumerate",data:=.fields #[.none,.bool false,.ref h.objs.size,rawInt 0,.none,.none] }
set_option maxHeartbeats 1000000 in
theorem Ue (t:Addr) (its:Array Value) (n:Nat) (dc:Option Addr) (sl:Array (Option Value)) :
  Meets (Builtin.«enumerate.__new__» ⟨[.type "enumerate",.ref t],[]⟩) (fun _ R s=>s.heap.get? t=some ⟨.type "tuple",dc,.seq its n,sl⟩/\R (.ok (.ret (.ref (tiH s.heap t).objs.size))) { s with heap:=enH s.heap t }):=
 .of_wp fun prog w A R s z=>by
  obtain⟨hp,g,d,tk,os⟩:=s
  obtain⟨ht,z⟩:=z
  have sub:=sub_enumerate
  have hT:Heap.IsTuple (Shared.heap ⟨hp,g,d,tk,os⟩) t its:=⟨_,ht,rfl,n,rfl⟩
  wp_walk using AutoSeq1.wpAny_loadPart' ht
  refine wpAny_stack_any fun st=>bV ?_
  split
  ·rename_i c _ _ _ _ _
   cases(c==Value.type "enumerate") <;> (wp_walk using AutoSeq1.wpAny_loadPart' ht,JB hT; exact⟨_,rfl,z⟩)
  ·wp_walk using AutoSeq1.wpAny_loadPart' ht,JB hT; exact⟨_,rfl,z⟩
theorem KQ {prog:Program} {w:World} {A:Around} {E:Value->Shared->Prop} {s:Shared} {t:Addr} {its:Array Value} {Q:Value->Shared->Prop} (hT:s.heap.IsTuple t its)
  (q:∀h',IsEnum h' (s.heap.objs.size+1) s.heap.objs.size 0 .none->h'.IsTupleIter s.heap.objs.size t 0->(∀b o,s.heap.get? b=some o->h'.get? b=some o)->Q (.ref (s.heap.objs.size+1)) { s with heap:=h' }) :
  wpAny (model prog w) A (call (.type "enumerate") [.ref t]) Q E s:=by
 obtain⟨⟨c,dc,dt,sl⟩,ht,hc,n,hd⟩:=hT
 cases(show c=.type "tuple" from hc)
 cases(show dt=.seq its n from hd)
 have sz:(tiH s.heap t).objs.size=s.heap.objs.size+1:=jm ..
 have g1:(enH s.heap t).get? (tiH s.heap t).objs.size=some _:=dJ _ rfl
 have g0:(enH s.heap t).get? s.heap.objs.size=some _:=dY _ (dJ _ rfl)
 refine callType_new F.called_enumerate (by decide) (F.typeCall_enumerate_1 _) (F.newCall_enumerate_1 _) (fun x=>F.args_object_init_2 x _) F.entry_enumerate_new (Ue t its n dc sl) ⟨ht,?_⟩
 show _/\_
 rw[sz] at g1 ⊢
 exact⟨⟨_,g1,rfl⟩,q _ g1 ⟨_,g0,rfl,rfl⟩ fun b o e=>dY _ (dY _ e)⟩
noncomputable def Rf (K:PySem.W.Frag) (a:Addr):It:=
 ⟨fun i H=>∃xs x,cB K H a xs/\xs[i]?=some x,fun i H x H'=>∃p y,H p=none/\x=.ref p/\H'=upd H p (.tup [.int i,y])/\∀xs,cB K H a xs->xs[i]?=some y,fun i H=>∃xs,cB K H a xs/\xs.length=i⟩
theorem Jc {P:Program} {w:World} {K:PySem.W.Frag} {elts:List Expr} {x1} {tp:Pos} (a e it:Addr) (hne:e≠it):Turn P w K (.Tuple elts x1 tp) (Rf K a) [e,it] e (fun i h=>(∃old,IsEnum h e it (i:Nat) old)/\h.IsTupleIter it a i) where
 mem:=by simp
 obj:=fun i h st b hb=>by
  obtain⟨⟨old,he⟩,o,ho,c,d⟩:=st
  rcases bU.mp hb with z | z
  ·rw[z]; exact⟨_,he,fun v q=>by cases q⟩
  ·rw[fH.mp z]; exact⟨o,ho,fun v q=>by rw[d] at q; cases q⟩
 keep:=fun i h h' st k=>by
  obtain⟨⟨old,he⟩,hi⟩:=st
  exact⟨⟨old,k e (by simp) _ he⟩,hi.at fun o q=>k it (by simp) o q⟩
 item:=by
  intro X hP hw hK hc i pins s σ H E I hf st hg
  subst hP hw hK
  obtain⟨⟨old,he⟩,hi⟩:=st
  obtain⟨xs,x,hq,hx⟩:=hg
  obtain⟨its,rv,p,hz⟩:=I.tuple hq
  obtain⟨u,hu,ru⟩:=rv.get hx
  have fe:=hf e (by simp)
  have fi:=hf it (by simp)
  have pT:s.heap.IsTuple a its.toArray:=p
  have nea:e≠a:=fun z=>by
   obtain⟨o,g,c,_⟩:=pT
   rw[<- z,he] at g
   cases g
   exact absurd (show Value.type "enumerate" = Value.type "tuple" from c) (by decide)
  have nia:a≠it:=fun z=>by
   obtain⟨o,g,c,_⟩:=pT
   obtain⟨o',g',c',_⟩:=hi
   rw[z,g'] at g
   cases g
   rw[c'] at c
   exact absurd c (by decide)
  have hlt:i<its.toArray.size:=by have:=(fj.mp hu).1; simpa using this
  refine wpAny_pyNext_enum_itemD (t_ (A:=X.A.in1) (show X.A.in1.handled=none from I.ok.hd hc) nia its.toArray) he (show _/\_ from⟨hi,pT⟩) hlt hne (fun z=>by rcases bU.mp z with y | y; exact hne y; exact nea (fH.mp y)) fun u' h' tk hu' eo hi' ht hsz kk=>?_
  have eu:u'=u:=by
   have:its[i]?=some u':=by simpa using hu'
   rw[hu] at this; exact(Option.some.inj this).symm
  subst eu
  have fr:H s.heap.objs.size=none:=I.hok.fresh (bI _)
  have I1:Inv X pins σ (upd H s.heap.objs.size (.tup [.int i,x])) { s with heap:=s.heap.push { cls:=.type "tuple",data:=.seq #[.int i tk,u'] },toks:=tk }:=
   I.laid (t':=tk) (fun b v z=>dY _ z) (bI _) ⟨(by show 2<=sizeLine; decide),[.int i tk,u'],.cons ⟨_,rfl⟩ (.cons ru .nil),⟨_,dJ _ rfl,rfl,_,rfl⟩⟩
  have le:e<s.heap.objs.size:=cC he
  have li:it<s.heap.objs.size:=by obtain⟨o,ho,_⟩:=hi; exact cC ho
  have J_:ik X pins (upd H s.heap.objs.size (.tup [.int i,x])) e:=⟨by rw[aR (gw le)]; exact fe.1,fe.2⟩
  have fi1:ik X pins (upd H s.heap.objs.size (.tup [.int i,x])) it:=⟨by rw[aR (gw li)]; exact fi.1,fi.2⟩
  have I2:Inv X pins σ (upd H s.heap.objs.size (.tup [.int i,x])) { s with heap:=h',toks:=tk+1 }:=I1.Le (t':=tk+1) (fun b o z1 z2 z=>by
   by_cases y:b=s.heap.objs.size
   ·subst y
    rw[dJ _ rfl] at z
    cases z
    exact ht
   ·rcases Heap.get?_push_cases z with v | v
    ·exact absurd v.1 y
    ·exact kk b o z1 z2 v) J_ fi1
  refine⟨_,rfl,wpAny_letOwnedTupleGo_enum eo fun h2 en sb=>⟨.ref s.heap.objs.size,_,I2.turned (it:=e) (t':=tk+1) (fun b o hb z=>sb.extBut b o hb z) J_.1 J_.2.1 J_.2.2.2.1 J_.2.2.2.2.1 J_.2.2.2.2.2,rfl,⟨_,x,fr,rfl,rfl,fun ys hy=>by rw[I.sU hy hq]; exact hx⟩,⟨⟨_,en⟩,?_⟩,fun b hb=>?_⟩⟩
  ·exact hi'.1.at fun o z=>sb.extBut it o (Ne.symm hne) z
  ·rcases bU.mp hb with z | z
   ·rw[z]; exact J_.1
   ·rw[fH.mp z]; exact fi1.1
 done:=by
  intro X hP hw hK hc i pins s σ H E I hf st hg
  subst hP hw hK
  obtain⟨⟨old,he⟩,hi⟩:=st
  obtain⟨xs,hq,hx⟩:=hg
  obtain⟨its,rv,p,hz⟩:=I.tuple hq
  have hl:=rv.length
  have pT:s.heap.IsTuple a its.toArray:=p
  obtain⟨f0,f1,f2,f3,f4,f5⟩:=hf it (by simp)
  have nia:a≠it:=fun z=>by
   obtain⟨o,g,c,_⟩:=pT
   obtain⟨o',g',c',_⟩:=hi
   rw[z,g'] at g
   cases g
   rw[c'] at c
   exact absurd c (by decide)
  have D:=t_ (prog:=X.prog) (w:=X.w) (A:=X.A.in1) (show X.A.in1.handled=none from I.ok.hd hc) nia its.toArray
  refine wpAny_pyNext_enum_endD D he (show _/\_ from⟨?_,pT⟩) fun h' eb=>⟨rfl,I.turned (t':=s.toks) (fun b o hb z=>eb b o hb z) f0 f1 f3 f4 f5⟩
  have e:its.toArray.size=i:=by simp; omega
  rw[e]; exact hi
 self:=fun _ _ _ _ _ st h=>by
  obtain⟨⟨old,he⟩,_⟩:=st
  exact Mp he h
section
variable {X:Cx}
noncomputable def J6 (K:PySem.W.Frag) (ta:TA):TI:=fun σ H R=>ta σ H fun vs H1=>∃a,vs=[.ref a]/\(∃xs,cB K H1 a xs)/\R (Rf K a) H1
theorem Hj {K:PySem.W.Frag} {e:Expr} {elts:List Expr} {x1} {tp p pos:Pos} {ta:TA} (hK:X.K=K) (hm:X.mg "enumerate" = none) (ha:PA X [e] ta) (hg:Gl X "enumerate" := by rfl) (h1:cD e=true:=by rfl) :
  PI X (.Tuple elts x1 tp) (.Call (.Name "enumerate" p) [e] [] pos) (J6 K ta):=by
 subst hK
 refine .mk ?_
 intro pins s σ H R I h
 refine rn (iV I hg hm sr ?_ (by decide) (by decide))
 refine PyProof.Rows.callWith_type1 (cT (ha pos pins s σ H _ I h) fun us s1 qx=>?_) (cQ h1) (cJ (es:=[]) rfl)
 obtain ⟨vs,H1,I1,r1,q1⟩:=qx
 obtain⟨a,rfl,⟨xs,hq⟩,q⟩:=q1
 obtain⟨u,rfl,ru⟩:=r1.one
 cases ru
 obtain⟨its,rv,pl,hz⟩:=I1.tuple hq
 refine KQ (show s1.heap.IsTuple a its.toArray from pl) fun h' he hi kk=>?_
 have I2:Inv X pins σ H1 { s1 with heap:=h' }:=I1.kept (t':=s1.toks) kk
 have f1:H1 (s1.heap.objs.size+1)=none:=I1.hok.fresh (Nat.le_succ _)
 have f0:H1 s1.heap.objs.size=none:=I1.hok.fresh (bI _)
 refine Mp he ⟨s1.heap.objs.size+1,_,_,Rf X.K a,H1,rfl,I2,Jc a (s1.heap.objs.size+1) s1.heap.objs.size (Nat.succ_ne_self _),⟨⟨_,he⟩,hi⟩,fun b hb=>?_,q⟩
 rcases bU.mp hb with z | z
 ·rw[z]; exact I1.tY (Nat.le_succ _) f1
 ·rw[fH.mp z]; exact I1.tY (bI _) f0
end
end L2
namespace L2
open PySem PySem.Spec PyProof.Rows
structure Zap (z TI TO i1 i2:Addr) (f1 f2:List Addr):Prop where
 a1:TI≠z
 a2:TO≠z
 a3:TI≠TO
 a4:i1≠z
 a5:i2≠z
 a6:TO≠i1
 a7:TO≠i2
 a8:i1≠i2
 b1:z∉f1
 b2:z∉f2
 b3:TO∉f1
 b4:TO∉f2
 b5:i1∉f2
 b6:i2∉f1
section
variable {prog:Program} {w:World} {A:Around} {E:Value->Shared->Prop} {s:Shared}
theorem O_ {b:Addr} {h h':Heap} {f:List Addr} (sb:Heap.SameBut b h h') (hb:b∉f):∀c∈f,∀o,h.get? c=some o->h'.get? c=some o:=fun c hc o e=>sb.extBut c o (fun z=>hb (z▸hc)) e
theorem Ru {z TI TO i1 i2:Addr} {f1 f2:List Addr} {n1 n2 k:Nat} {P1 P2:Nat->Value->Prop} {S1 S2:Nat->Heap->Prop} {a b:Value} {Q:Value->Shared->Prop} (Z:Zap z TI TO i1 i2 f1 f2) (D1:Draws prog w A i1 f1 n1 P1 S1) (D2:Draws prog w A i2 f2 n2 P2 S2)
  (hz:IsZip s.heap z TI TO .none) (hi:IsPair s.heap TI (.ref i1) (.ref i2)) (ho:IsPair s.heap TO a b) (s1:S1 k s.heap) (s2:S2 k s.heap) (k1:k<n1) (k2:k<n2)
  (q:∀x y h' tk,P1 k x->P2 k y->IsZip h' z TI TO (rawInt s.heap.objs.size)->IsPair h' TO x y->S1 (k+1) h'->S2 (k+1) h'->IsPair h' s.heap.objs.size x y->h'.objs.size=s.heap.objs.size+1->(∀c o,c≠z->c≠TO->c≠i1->c≠i2->s.heap.get? c=some o->h'.get? c=some o)->Q (.ref s.heap.objs.size) { s with heap:=h',toks:=tk }) :
  wpAny (model prog w) A (Builtin.«zip.__next__» ⟨[.ref z],[]⟩) (fun fin s'=>∃v,fin=.done (.ret v)/\Q v s') E s:=by
 show wpAny _ _ (field (.ref z) 2 >>= _) _ _ _; refine aW (jE hz rfl (x:=.bool false) rfl ?_)
 show wpAny _ _ (field (.ref z) 3 >>= _) _ _ _; refine aW (jE hz rfl (x:=.ref TI) rfl (aW (rm hi rfl ?_)))
 show wpAny _ _ (Builtin.SmallTypes.ownedTupleIsFree (.ref z) >>= _) _ _ _; unfold Builtin.SmallTypes.ownedTupleIsFree
 refine aW (aW (jE hz rfl (x:=.none) rfl (bV ?_))); simp only[if_true]
 refine aW (rB (aW (jE hz rfl (x:=.ref TO) rfl (aW (Pu hz (by simp) fun hA zA sA=>?_)))))
 replace zA:IsZip hA z TI TO .ellipsis:=zA
 refine aW ?_; simp only[List.zipIdx_cons,List.zipIdx_nil,Jv,List.forIn_nil]
 refine aW (aW (GP ?_)); show wpAny _ _ (Builtin.SmallTypes.nextOf (.ref i1) >>= _) _ _ _
 refine aW (D1.item k _ _ _ k1 (D1.frame _ _ _ s1 (O_ sA Z.b1)) fun x hB tB pB stb sB=>bV ?_)
 have oB:IsPair hB TO a b:=sB.extBut _ _ Z.a6 (sA.extBut _ _ Z.a2 ho)
 have uB:S2 k hB:=D2.frame _ _ _ (D2.frame _ _ _ s2 (O_ sA Z.b2)) (O_ sB Z.b5)
 refine aW (rm oB rfl (aW (wpAny_updateSeq_pair oB fun hC oC sC=>?_)))
 replace oC:IsPair hC TO x b:=oC
 refine aW (wU (bV (aW (aW (GP ?_))))); show wpAny _ _ (Builtin.SmallTypes.nextOf (.ref i2) >>= _) _ _ _
 refine aW (D2.item k _ _ _ k2 (D2.frame _ _ _ uB (O_ sC Z.b4)) fun y hD tD pD std sD=>bV ?_)
 have oD:IsPair hD TO x b:=sD.extBut _ _ Z.a7 oC
 refine aW (rm oD rfl (aW (wpAny_updateSeq_pair oD fun hF oF sF=>?_)))
 replace oF:IsPair hF TO x y:=oF
 refine aW (wU (bV (bV (aW (rm oF rfl (aW (wpAny_newTuple ?_)))))))
 have zF:IsZip hF z TI TO .ellipsis:=sF.extBut _ _ Z.a2.symm (sD.extBut _ _ Z.a5.symm (sC.extBut _ _ Z.a2.symm (sB.extBut _ _ Z.a4.symm zA)))
 have size:hF.objs.size=s.heap.objs.size:=by rw[sF.1,sD.1,sC.1,sB.1,sA.1]
 have lz:z<hF.objs.size:=cC zF
 show wpAny _ _ (Builtin.SmallTypes.ownedTupleHandOut (.ref z) (.ref hF.objs.size) >>= _) _ _ _; unfold Builtin.SmallTypes.ownedTupleHandOut
 have zG:IsZip (hF.push { cls:=.type "tuple",data:=.seq #[x,y] }) z TI TO .ellipsis:=dY _ zF
 refine aW (aW (Pu zG (by simp) fun hI zI sI=>?_))
 replace zI:IsZip hI z TI TO (rawInt hF.objs.size):=zI
 refine Pu zI (by simp) fun hJ zJ sJ=>bV ⟨_,rfl,?_⟩
 replace zJ:IsZip hJ z TI TO (rawInt hF.objs.size):=zJ
 have up:∀c o,c≠z->hF.get? c=some o->hJ.get? c=some o:=fun c o n e=>sJ.extBut _ _ n (sI.extBut _ _ n (dY _ e))
 have tJ:IsPair hJ hF.objs.size x y:=sJ.extBut _ _ (GD lz) (sI.extBut _ _ (GD lz) (dJ _ rfl))
 have szJ:hJ.objs.size=hF.objs.size+1:=by rw[sJ.1,sI.1,jm]
 have kB:∀c o,c≠z->c≠TO->c≠i1->c≠i2->s.heap.get? c=some o->hF.get? c=some o:=fun c o n1 n2 n3 n4 e=>sF.extBut _ _ n2 (sD.extBut _ _ n4 (sC.extBut _ _ n2 (sB.extBut _ _ n3 (sA.extBut _ _ n1 e))))
 have u1:S1 (k+1) hF:=D1.frame _ _ _ (D1.frame _ _ _ (D1.frame _ _ _ stb (O_ sC Z.b3)) (O_ sD Z.b6)) (O_ sF Z.b3)
 have u2:S2 (k+1) hF:=D2.frame _ _ _ std (O_ sF Z.b4)
 show Q (.ref hF.objs.size) _
 rw[size] at zJ tJ szJ ⊢
 exact q x y hJ tD pB pD zJ (up _ _ Z.a2 oF) (D1.frame _ _ _ u1 fun c hc o e=>up c o (fun z'=>Z.b1 (z'▸hc)) e) (D2.frame _ _ _ u2 fun c hc o e=>up c o (fun z'=>Z.b2 (z'▸hc)) e) tJ szJ fun c o n1 n2 n3 n4 e=>up c o n1 (kB c o n1 n2 n3 n4 e)
theorem Oz {z TI TO i1 i2:Addr} {f1 f2:List Addr} {n1 n2 k:Nat} {P1 P2:Nat->Value->Prop} {S1 S2:Nat->Heap->Prop} {a b:Value} {Q:Fin->Shared->Prop} (Z:Zap z TI TO i1 i2 f1 f2) (D1:Draws prog w A i1 f1 n1 P1 S1) (D2:Draws prog w A i2 f2 n2 P2 S2)
  (hz:IsZip s.heap z TI TO .none) (hi:IsPair s.heap TI (.ref i1) (.ref i2)) (ho:IsPair s.heap TO a b) (s1:S1 k s.heap) (s2:S2 k s.heap) (kk:k=n1\/(k<n1/\k=n2))
  (q:∀h' e,(∀c o,c≠z->c≠TO->c≠i1->c≠i2->s.heap.get? c=some o->h'.get? c=some o)->(∃o,h'.get? e=some o/\o.cls=.type "StopIteration")->∀tk,E (.ref e) { s with heap:=h',toks:=tk }) :
  wpAny (model prog w) A (Builtin.«zip.__next__» ⟨[.ref z],[]⟩) Q E s:=by
 show wpAny _ _ (field (.ref z) 2 >>= _) _ _ _; refine aW (jE hz rfl (x:=.bool false) rfl ?_)
 show wpAny _ _ (field (.ref z) 3 >>= _) _ _ _; refine aW (jE hz rfl (x:=.ref TI) rfl (aW (rm hi rfl ?_)))
 show wpAny _ _ (Builtin.SmallTypes.ownedTupleIsFree (.ref z) >>= _) _ _ _; unfold Builtin.SmallTypes.ownedTupleIsFree
 refine aW (aW (jE hz rfl (x:=.none) rfl (bV ?_))); simp only[if_true]
 refine aW (rB (aW (jE hz rfl (x:=.ref TO) rfl (aW (Pu hz (by simp) fun hA zA sA=>?_)))))
 replace zA:IsZip hA z TI TO .ellipsis:=zA
 refine aW ?_; simp only[List.zipIdx_cons,List.zipIdx_nil,Jv,List.forIn_nil]
 refine aW (aW (GP ?_)); show wpAny _ _ (Builtin.SmallTypes.nextOf (.ref i1) >>= _) _ _ _
 rcases kk with e1 | ⟨k1,e2⟩
 ·have s1':=s1
  rw[e1] at s1'
  refine aW (D1.done _ _ _ (D1.frame _ _ _ s1' (O_ sA Z.b1)) fun hB x sB hx=>?_)
  obtain⟨ox,gx,cx⟩:=hx
  have zB:IsZip hB z TI TO .ellipsis:=sB _ _ Z.a4.symm zA
  have nx:x≠z:=fun y=>by subst y; rw[zB] at gx; cases gx; exact absurd (show Value.type "zip" = Value.type "StopIteration" from cx) (by decide)
  refine Pu zB (by simp) fun hC _ sC=>q hC x (fun c o m1 _ m3 _ e=>sC.extBut _ _ m1 (sB _ _ m3 (sA.extBut _ _ m1 e))) ⟨ox,sC.extBut _ _ nx gx,cx⟩ _
 ·refine aW (D1.item k _ _ _ k1 (D1.frame _ _ _ s1 (O_ sA Z.b1)) fun x hB tB pB stb sB=>bV ?_)
  have oB:IsPair hB TO a b:=sB.extBut _ _ Z.a6 (sA.extBut _ _ Z.a2 ho)
  have uB:S2 k hB:=D2.frame _ _ _ (D2.frame _ _ _ s2 (O_ sA Z.b2)) (O_ sB Z.b5)
  refine aW (rm oB rfl (aW (wpAny_updateSeq_pair oB fun hC oC sC=>?_)))
  refine aW (wU (bV (aW (aW (GP ?_))))); show wpAny _ _ (Builtin.SmallTypes.nextOf (.ref i2) >>= _) _ _ _
  have uC:S2 n2 hC:=by rw[<- e2]; exact D2.frame _ _ _ uB (O_ sC Z.b4)
  refine aW (D2.done _ _ _ uC fun hD v sD hx=>?_)
  obtain⟨ox,gx,cx⟩:=hx
  have zD:IsZip hD z TI TO .ellipsis:=sD _ _ Z.a5.symm (sC.extBut _ _ Z.a2.symm (sB.extBut _ _ Z.a4.symm zA))
  have nx:v≠z:=fun y=>by subst y; rw[zD] at gx; cases gx; exact absurd (show Value.type "zip" = Value.type "StopIteration" from cx) (by decide)
  refine Pu zD (by simp) fun hF _ sF=>q hF v (fun c o m1 m2 m3 m4 e=>sF.extBut _ _ m1 (sD _ _ m4 (sC.extBut _ _ m2 (sB.extBut _ _ m3 (sA.extBut _ _ m1 e))))) ⟨ox,sF.extBut _ _ nx gx,cx⟩ _
theorem Zm {z TI TO i1 i2:Addr} {f1 f2:List Addr} {n1 n2 k:Nat} {P1 P2:Nat->Value->Prop} {S1 S2:Nat->Heap->Prop} {a b:Value} {Q:Option Value->Shared->Prop} (Z:Zap z TI TO i1 i2 f1 f2) (D1:Draws prog w A.in1 i1 f1 n1 P1 S1) (D2:Draws prog w A.in1 i2 f2 n2 P2 S2)
  (hz:IsZip s.heap z TI TO .none) (hi:IsPair s.heap TI (.ref i1) (.ref i2)) (ho:IsPair s.heap TO a b) (s1:S1 k s.heap) (s2:S2 k s.heap) (k1:k<n1) (k2:k<n2)
  (q:∀x y h' tk,P1 k x->P2 k y->IsZip h' z TI TO (rawInt s.heap.objs.size)->IsPair h' TO x y->S1 (k+1) h'->S2 (k+1) h'->IsPair h' s.heap.objs.size x y->h'.objs.size=s.heap.objs.size+1->(∀c o,c≠z->c≠TO->c≠i1->c≠i2->s.heap.get? c=some o->h'.get? c=some o)->Q (some (.ref s.heap.objs.size)) { s with heap:=h',toks:=tk }) :
  wpAny (model prog w) A (pyNext (.ref z)) Q E s:=by
 have ty:s.TypeIs (.ref z) "zip" := ⟨_,hz,rfl⟩
 unfold pyNext
 refine aW (wpAny_attempt (PB (name:=Str.ofString "__next__") ty F.slot_zip_next (wQ F.slot_zip_next ty F.entry_zip_next ?_ (F.args_zip_next_1 _))))
 exact Ru Z D1 D2 hz hi ho s1 s2 k1 k2 fun x y h' tk p1 p2 v1 v2 v3 v4 v5 v6 v7=>bV (q x y h' tk p1 p2 v1 v2 v3 v4 v5 v6 v7)
theorem VP {z TI TO i1 i2:Addr} {f1 f2:List Addr} {n1 n2 k:Nat} {P1 P2:Nat->Value->Prop} {S1 S2:Nat->Heap->Prop} {a b:Value} {Q:Option Value->Shared->Prop} (Z:Zap z TI TO i1 i2 f1 f2) (D1:Draws prog w A.in1 i1 f1 n1 P1 S1) (D2:Draws prog w A.in1 i2 f2 n2 P2 S2)
  (hz:IsZip s.heap z TI TO .none) (hi:IsPair s.heap TI (.ref i1) (.ref i2)) (ho:IsPair s.heap TO a b) (s1:S1 k s.heap) (s2:S2 k s.heap) (kk:k=n1\/(k<n1/\k=n2))
  (q:∀h' tk,(∀c o,c≠z->c≠TO->c≠i1->c≠i2->s.heap.get? c=some o->h'.get? c=some o)->Q none { s with heap:=h',toks:=tk }):wpAny (model prog w) A (pyNext (.ref z)) Q E s:=by
 have ty:s.TypeIs (.ref z) "zip" := ⟨_,hz,rfl⟩
 unfold pyNext
 refine aW (wpAny_attempt (PB (name:=Str.ofString "__next__") ty F.slot_zip_next (wQ F.slot_zip_next ty F.entry_zip_next ?_ (F.args_zip_next_1 _))))
 refine Oz Z D1 D2 hz hi ho s1 s2 kk fun h' e k hx tk=>?_
 obtain⟨o,g,c⟩:=hx
 exact aW (wpAny_isInstance (T:="StopIteration") (b:=true) ⟨o,g,c⟩ isSubtype_stop (bV (q _ tk k)))
end
noncomputable abbrev zA2 (h:Heap) (t1 t2:Addr):Heap:=tiH (tiH h t1) t2
noncomputable abbrev zA3 (h:Heap) (t1 t2:Addr):Heap:=(zA2 h t1 t2).push { cls:=.type "tuple",data:=.seq #[.ref h.objs.size,.ref (tiH h t1).objs.size] }
noncomputable abbrev zA4 (h:Heap) (t1 t2:Addr):Heap:=(zA3 h t1 t2).push { cls:=.type "tuple",data:=.seq #[.none,.none] }
noncomputable abbrev Zr (h:Heap) (t1 t2:Addr):Heap:=(zA4 h t1 t2).push { cls:=.type "zip",data:=.fields #[.none,.bool false,.bool false,.ref (zA2 h t1 t2).objs.size,.ref (zA3 h t1 t2).objs.size] }
theorem Xf (t1 t2:Addr) (xs ys:Array Value):Meets (Builtin.«zip.__new__» ⟨[.type "zip",.ref t1,.ref t2],[]⟩) (fun _ R s=>s.heap.IsTuple t1 xs/\s.heap.IsTuple t2 ys/\R (.ok (.ret (.ref (zA4 s.heap t1 t2).objs.size))) { s with heap:=Zr s.heap t1 t2 }):=
 .of_wp fun prog w A R s z=>by
  obtain⟨hp,g,d,tk,os⟩:=s
  obtain⟨hx,hy,z⟩:=z
  have sub:=sub_zip
  have hX:Heap.IsTuple (Shared.heap ⟨hp,g,d,tk,os⟩) t1 xs:=hx
  have hY:Heap.IsTuple (Shared.heap ⟨tiH hp t1,g,d,tk,os⟩) t2 ys:=hy.push _
  wp_walk using JB hX,JB hY
  exact⟨_,rfl,z⟩
theorem QR {prog:Program} {w:World} {A:Around} {E:Value->Shared->Prop} {s:Shared} {t1 t2:Addr} {xs ys:Array Value} {Q:Value->Shared->Prop} (hx:s.heap.IsTuple t1 xs) (hy:s.heap.IsTuple t2 ys)
  (q:∀h',IsZip h' (s.heap.objs.size+4) (s.heap.objs.size+2) (s.heap.objs.size+3) .none->IsPair h' (s.heap.objs.size+2) (.ref s.heap.objs.size) (.ref (s.heap.objs.size+1))->IsPair h' (s.heap.objs.size+3) .none .none ->
   h'.IsTupleIter s.heap.objs.size t1 0->h'.IsTupleIter (s.heap.objs.size+1) t2 0->(∀c o,s.heap.get? c=some o->h'.get? c=some o)->Q (.ref (s.heap.objs.size+4)) { s with heap:=h' }) :
  wpAny (model prog w) A (call (.type "zip") [.ref t1,.ref t2]) Q E s:=by
 have n1:(tiH s.heap t1).objs.size=s.heap.objs.size+1:=jm ..
 have n2:(zA2 s.heap t1 t2).objs.size=s.heap.objs.size+2:=by rw[jm,n1]
 have n3:(zA3 s.heap t1 t2).objs.size=s.heap.objs.size+3:=by rw[jm,n2]
 have n4:(zA4 s.heap t1 t2).objs.size=s.heap.objs.size+4:=by rw[jm,n3]
 have up:∀c o,s.heap.get? c=some o->(Zr s.heap t1 t2).get? c=some o:=fun c o e=>dY _ (dY _ (dY _ (dY _ (dY _ e))))
 have v5:(Zr s.heap t1 t2).get? (zA4 s.heap t1 t2).objs.size=some _:=dJ _ rfl
 have v4:(Zr s.heap t1 t2).get? (zA3 s.heap t1 t2).objs.size=some _:=dY _ (dJ _ rfl)
 have v3:(Zr s.heap t1 t2).get? (zA2 s.heap t1 t2).objs.size=some _:=dY _ (dY _ (dJ _ rfl))
 have v2:(Zr s.heap t1 t2).get? (tiH s.heap t1).objs.size=some _:=dY _ (dY _ (dY _ (dJ _ rfl)))
 have v1:(Zr s.heap t1 t2).get? s.heap.objs.size=some _:=dY _ (dY _ (dY _ (dY _ (dJ _ rfl))))
 refine callType_new F.called_zip (by decide) (F.typeCall_zip_2 _ _) (F.newCall_zip_2 _ _) (fun x=>F.args_object_init_3 x _ _) F.entry_zip_new (Xf t1 t2 xs ys) ⟨hx,hy,?_⟩
 show _/\_
 rw[n2,n3,n4] at v5
 rw[n1,n2] at v3
 rw[n3] at v4
 rw[n1] at v2
 rw[n4]
 exact⟨⟨_,v5,rfl⟩,q _ v5 v3 v4 ⟨_,v1,rfl,rfl⟩ ⟨_,v2,rfl,rfl⟩ up⟩
theorem Inv.Cz {X:Cx} {pins:List (Addr×Obj)} {σ:St} {H:Hp} {s:Shared} {h':Heap} {t':Nat} {fp:List Addr} (I:Inv X pins σ H s) (k:∀b o,b∉fp->s.heap.get? b=some o->h'.get? b=some o) (hf:∀b∈fp,ik X pins H b) :
  Inv X pins σ H { s with heap:=h',toks:=t' }:=by
 have ni:∀b u,H b=some u->b∉fp:=fun b u q hb=>by rw[(hf b hb).1] at q; cases q
 refine I.step (g':=s.gens) (d':=s.drawn) (ch:=fp) (fun b hb=>?_) (fun b o _ _ hc q _=>k b o hc q) (fun b o _ _ hc q _=>⟨o.slots,k b o hc q⟩) (fun _ _ _ _ n=>n) (fun b o hc q=>⟨o,k b o hc q⟩) (fun _ _ q=>q) (fun _ _ _ q=>q)
  (fun b ps q=>⟨#[],by rw[q]; simp⟩) (fun m hm=>?_) (fun b u q=>?_) I.bare
 ·obtain⟨_,f1,_,f3,f4,f5⟩:=hf b hb
  exact⟨f3,(hf b hb).2.1,f4,f5⟩
 ·obtain⟨o,es,ep,ho,r⟩:=hm
  exact⟨o,es,ep,k _ o (fun hb=>(hf _ hb).2.1 rfl) ho,r⟩
 ·refine(I.hok b u q).stay (fun c v hc z=>k c v ?_ z) (fun _ z=>z) fun _ _ z=>z
  rcases hc with z | z
  ·rw[z]; exact ni b u q
  ·exact ni c _ z
theorem acz {X:Cx} {pins:List (Addr×Obj)} {σ:St} {H:Hp} {s:Shared} {a b:Addr} {xs:List V} (I:Inv X pins σ H s) (hq:cB X.K H a xs) (hf:ik X pins H b):a≠b:=fun z=>by
 rcases hq with h | ⟨o,its,n,hk,_⟩
 ·rcases h with h | ⟨o,h⟩ <;> (rw[z,hf.1] at h; cases h)
 ·have e:X.base.get? a=some o:=I.ok.mod.Xz a o hk
  rcases hf.2.2.2.1 with y | y
  ·exact I.ok.Hr a o e (z▸y)
  ·have l:=cC e
   have m:=I.ok.Rq
   rw[z] at l
   exact absurd (jU l (n_ m y)) (tM _)
structure Knd where
 Sq:PySem.W.Frag->Hp->Addr->List V->Prop
 It:Heap->Addr->Addr->Nat->Prop
 Pl:Heap->Addr->Array Value->Prop
 obj:∀{h:Heap} {i a:Addr} {n:Nat},It h i a n->∃o,h.get? i=some o/\∀v,o.data≠.cell v
 keep:∀{h h':Heap} {i a:Addr} {n:Nat},It h i a n->(∀o,h.get? i=some o->h'.get? i=some o)->It h' i a n
 inv:∀{X:Cx} {pins:List (Addr×Obj)} {σ:St} {H:Hp} {s:Shared} {a:Addr} {xs:List V},Inv X pins σ H s->Sq X.K H a xs->∃us:List Value,Vals xs us/\Pl s.heap a us.toArray
 inj:∀{X:Cx} {pins:List (Addr×Obj)} {σ:St} {H:Hp} {s:Shared} {a:Addr} {xs ys:List V},Inv X pins σ H s->Sq X.K H a xs->Sq X.K H a ys->xs=ys
 ne:∀{X:Cx} {pins:List (Addr×Obj)} {σ:St} {H:Hp} {s:Shared} {a b:Addr} {xs:List V},Inv X pins σ H s->Sq X.K H a xs->ik X pins H b->a≠b
 dr:∀{prog:Program} {w:World} {A:Around},A.handled=none->∀{i a:Addr},a≠i->∀us:Array Value,Draws prog w A i [i,a] us.size (fun n v=>us[n]?=some v) (fun n h=>It h i a n/\Pl h a us)
noncomputable def kT:Knd:=⟨fun K=>cB K,fun h i a n=>h.IsTupleIter i a n,fun h a us=>h.IsTuple a us,fun⟨o,g,_,d⟩=>⟨o,g,fun v q=>by rw[d] at q; cases q⟩,fun g k=>g.at k,fun I h=>(I.tuple h).elim fun us p=>⟨us,p.1,p.2.1⟩,fun I h h'=>I.sU h h',fun I h f=>acz I h f,fun hh _ _ n us=>t_ hh n us⟩
noncomputable def Yc (k1 k2:Knd) (K:PySem.W.Frag) (a b:Addr):It:=
 ⟨fun i H=>∃xs ys x y,k1.Sq K H a xs/\k2.Sq K H b ys/\xs[i]?=some x/\ys[i]?=some y,fun i H v H'=>∃p x y,H p=none/\v=.ref p/\H'=upd H p (.tup [x,y])/\(∀xs,k1.Sq K H a xs->xs[i]?=some x)/\∀ys,k2.Sq K H b ys->ys[i]?=some y,
  fun i H=>∃xs ys,k1.Sq K H a xs/\k2.Sq K H b ys/\(i=xs.length\/(i<xs.length/\i=ys.length))⟩
structure agd (k1 k2:Knd) (z TI TO i1 i2 a b:Addr) (i:Nat) (h:Heap):Prop where
 z:IsZip h z TI TO .none
 p:IsPair h TI (.ref i1) (.ref i2)
 o:∃x y,IsPair h TO x y
 l:k1.It h i1 a i
 r:k2.It h i2 b i
noncomputable abbrev adN:=Yc kT kT
theorem sS (k1 k2:Knd) {P:Program} {w:World} {K:PySem.W.Frag} {elts:List Expr} {x1} {tp:Pos} (a b z TI TO i1 i2:Addr) (n1:TI≠z) (n2:TO≠z) (n3:TI≠TO) (n4:i1≠z) (n5:i2≠z) (n6:TO≠i1) (n7:TO≠i2) (n8:i1≠i2) (n9:TI≠i1) (n10:TI≠i2) :
  Turn P w K (.Tuple elts x1 tp) (Yc k1 k2 K a b) [z,TI,TO,i1,i2] z (agd k1 k2 z TI TO i1 i2 a b) where
 mem:=by simp
 obj:=fun i h st c hc=>by
  obtain⟨g1,g2,⟨x,y,g3⟩,g4,g5⟩:=st
  simp only[bU,jH,or_false] at hc
  rcases hc with rfl | rfl | rfl | rfl | rfl
  ·exact⟨_,g1,fun v q=>by cases q⟩
  ·exact⟨_,g2,fun v q=>by cases q⟩
  ·exact⟨_,g3,fun v q=>by cases q⟩
  ·exact k1.obj g4
  ·exact k2.obj g5
 keep:=fun i h h' st k=>by
  obtain⟨g1,g2,⟨x,y,g3⟩,g4,g5⟩:=st
  exact⟨k z (by simp) _ g1,k TI (by simp) _ g2,⟨x,y,k TO (by simp) _ g3⟩,k1.keep g4 fun o e=>k i1 (by simp) o e,k2.keep g5 fun o e=>k i2 (by simp) o e⟩
 item:=by
  intro X hP hw hK hc i pins s σ H E I hf st hg
  subst hP hw hK
  obtain⟨g1,g2,⟨xo,yo,g3⟩,g4,g5⟩:=st
  obtain⟨xs,ys,x,y,hx,hy,ex,ey⟩:=hg
  obtain⟨us,ru,pu⟩:=k1.inv I hx
  obtain⟨vs,rv,pv⟩:=k2.inv I hy
  obtain⟨u,hu,ru'⟩:=ru.get ex
  obtain⟨v,hv,rv'⟩:=rv.get ey
  have ha:∀c∈[z,TI,TO,i1,i2],a≠c:=fun c hc=>k1.ne I hx (hf c hc)
  have hb:∀c∈[z,TI,TO,i1,i2],b≠c:=fun c hc=>k2.ne I hy (hf c hc)
  have hh:X.A.in1.handled=none:=I.ok.hd hc
  have Z:Zap z TI TO i1 i2 [i1,a] [i2,b]:=⟨n1,n2,n3,n4,n5,n6,n7,n8,by simp; exact⟨n4.symm,(ha z (by simp)).symm⟩,by simp; exact⟨n5.symm,(hb z (by simp)).symm⟩,by simp; exact⟨n6,(ha TO (by simp)).symm⟩,by simp; exact⟨n7,(hb TO (by simp)).symm⟩,by simp; exact⟨n8,(hb i1 (by simp)).symm⟩,by simp; exact⟨n8.symm,(ha i2 (by simp)).symm⟩⟩
  refine Zm Z (k1.dr hh (ha i1 (by simp)) us.toArray) (k2.dr hh (hb i2 (by simp)) vs.toArray) g1 g2 g3 (show _/\_ from⟨g4,pu⟩) (show _/\_ from⟨g5,pv⟩) (by have:=(fj.mp hu).1; simpa using this) (by have:=(fj.mp hv).1; simpa using this)
   fun u' v' h' tk hu' hv' z1 z2 z3 z4 z5 z6 kk=>?_
  have eu:u'=u:=by
   have:us[i]?=some u':=by simpa using hu'
   rw[hu] at this; exact(Option.some.inj this).symm
  have ev:v'=v:=by
   have:vs[i]?=some v':=by simpa using hv'
   rw[hv] at this; exact(Option.some.inj this).symm
  subst eu ev
  have fr:H s.heap.objs.size=none:=I.hok.fresh (bI _)
  have I1:Inv X pins σ (upd H s.heap.objs.size (.tup [x,y])) { s with heap:=s.heap.push { cls:=.type "tuple",data:=.seq #[u',v'] },toks:=tk }:=
   I.laid (t':=tk) (fun b v z=>dY _ z) (bI _) ⟨(by show 2<=sizeLine; decide),[u',v'],.cons ru' (.cons rv' .nil),⟨_,dJ _ rfl,rfl,_,rfl⟩⟩
  have lt:∀c∈[z,TI,TO,i1,i2],c<s.heap.objs.size:=fun c hc=>by
   simp only[bU,jH,or_false] at hc
   rcases hc with rfl | rfl | rfl | rfl | rfl
   ·exact cC g1
   ·exact cC g2
   ·exact cC g3
   ·obtain⟨o,e,_⟩:=k1.obj g4; exact cC e
   ·obtain⟨o,e,_⟩:=k2.obj g5; exact cC e
  have f1:∀c∈[z,TI,TO,i1,i2],ik X pins (upd H s.heap.objs.size (.tup [x,y])) c:=fun c hc=>⟨by rw[aR (gw (lt c hc))]; exact(hf c hc).1,(hf c hc).2⟩
  have I2:Inv X pins σ (upd H s.heap.objs.size (.tup [x,y])) { s with heap:=h',toks:=tk }:=I1.Cz (t':=tk) (fun c o nc e=>by
   have m:∀d∈[z,TI,TO,i1,i2],c≠d:=fun d hd y=>nc (y▸hd)
   by_cases y:c=s.heap.objs.size
   ·subst y
    rw[dJ _ rfl] at e
    cases e
    exact z5
   ·rcases Heap.get?_push_cases e with w | w
    ·exact absurd w.1 y
    ·exact kk c o (m z (by simp)) (m TO (by simp)) (m i1 (by simp)) (m i2 (by simp)) w) f1
  have g2':IsPair h' TI (.ref i1) (.ref i2):=kk _ _ n1 n3 n9 n10 g2
  refine⟨_,rfl,wpAny_letOwnedTupleGo_zip z1 fun h2 zz sb=>⟨.ref s.heap.objs.size,_,I2.Cz (fp:=[z,TI,TO,i1,i2]) (t':=tk) (fun c o nc e=>sb.extBut c o (fun y=>nc (by simp[y])) e) f1,rfl,⟨_,x,y,fr,rfl,rfl,fun xs' h=>by rw[k1.inj I h hx]; exact ex,fun ys' h=>by rw[k2.inj I h hy]; exact ey⟩,⟨zz,sb.extBut _ _ n1 g2',⟨_,_,sb.extBut _ _ n2 z2⟩,?_,?_⟩,fun c hc=>(f1 c hc).1⟩⟩
  ·exact k1.keep z3.1 fun o e=>sb.extBut i1 o n4 e
  ·exact k2.keep z4.1 fun o e=>sb.extBut i2 o n5 e
 done:=by
  intro X hP hw hK hc i pins s σ H E I hf st hg
  subst hP hw hK
  obtain⟨g1,g2,⟨xo,yo,g3⟩,g4,g5⟩:=st
  obtain⟨xs,ys,hx,hy,hl⟩:=hg
  obtain⟨us,ru,pu⟩:=k1.inv I hx
  obtain⟨vs,rv,pv⟩:=k2.inv I hy
  have ha:∀c∈[z,TI,TO,i1,i2],a≠c:=fun c hc=>k1.ne I hx (hf c hc)
  have hb:∀c∈[z,TI,TO,i1,i2],b≠c:=fun c hc=>k2.ne I hy (hf c hc)
  have hh:X.A.in1.handled=none:=I.ok.hd hc
  have Z:Zap z TI TO i1 i2 [i1,a] [i2,b]:=⟨n1,n2,n3,n4,n5,n6,n7,n8,by simp; exact⟨n4.symm,(ha z (by simp)).symm⟩,by simp; exact⟨n5.symm,(hb z (by simp)).symm⟩,by simp; exact⟨n6,(ha TO (by simp)).symm⟩,by simp; exact⟨n7,(hb TO (by simp)).symm⟩,by simp; exact⟨n8,(hb i1 (by simp)).symm⟩,by simp; exact⟨n8.symm,(ha i2 (by simp)).symm⟩⟩
  have l1:=ru.length
  have l2:=rv.length
  refine VP Z (k1.dr hh (ha i1 (by simp)) us.toArray) (k2.dr hh (hb i2 (by simp)) vs.toArray) g1 g2 g3 (show _/\_ from⟨g4,pu⟩) (show _/\_ from⟨g5,pv⟩) (by simp; omega) fun h' tk kk=>⟨rfl,I.Cz (fp:=[z,TI,TO,i1,i2]) (t':=tk) (fun c o nc e=>?_) hf⟩
  have m:∀d∈[z,TI,TO,i1,i2],c≠d:=fun d hd y=>nc (y▸hd)
  exact kk c o (m z (by simp)) (m TO (by simp)) (m i1 (by simp)) (m i2 (by simp)) e
 self:=fun _ _ _ _ _ st h=>Mm st.z h
section
variable {X:Cx}
noncomputable def HH (K:PySem.W.Frag) (ta:TA):TI:=fun σ H R=>ta σ H fun vs H1=>∃a b,vs=[.ref a,.ref b]/\(∃xs,cB K H1 a xs)/\(∃ys,cB K H1 b ys)/\R (adN K a b) H1
theorem oY {K:PySem.W.Frag} {e e':Expr} {elts:List Expr} {x1} {tp p pos:Pos} {ta:TA} (hK:X.K=K) (hm:X.mg "zip" = none) (ha:PA X [e,e'] ta) (hg:Gl X "zip" := by rfl) (h1:cD e=true:=by rfl) (h2:cD e'=true:=by rfl) :
  PI X (.Tuple elts x1 tp) (.Call (.Name "zip" p) [e,e'] [] pos) (HH K ta):=by
 subst hK
 refine .mk ?_
 intro pins s σ H R I h
 refine rn (iV I hg hm K5 ?_ (by decide) (by decide))
 refine PyProof.Rows.callWith_type1 (cT (ha pos pins s σ H _ I h) fun us s1 qx=>?_) (cQ h1) (cJ (es:=[e']) (by simp[h2]))
 obtain ⟨vs,H1,I1,r1,q1⟩:=qx
 obtain⟨a,b,rfl,⟨xs,hx⟩,⟨ys,hy⟩,q⟩:=q1
 obtain⟨u,v,rfl,ru,rv⟩:=r1.two
 cases ru
 cases rv
 obtain⟨us,_,pu,_⟩:=I1.tuple hx
 obtain⟨ws,_,pw,_⟩:=I1.tuple hy
 refine QR (show s1.heap.IsTuple a us.toArray from pu) (show s1.heap.IsTuple b ws.toArray from pw) fun h' hz hp ho h1 h2 kk=>?_
 have I2:Inv X pins σ H1 { s1 with heap:=h' }:=I1.kept (t':=s1.toks) kk
 have fr:∀n,H1 (s1.heap.objs.size+n)=none:=fun n=>I1.hok.fresh (Bd _ _)
 have fk:∀n,ik X pins H1 (s1.heap.objs.size+n):=fun n=>I1.tY (Bd _ _) (fr n)
 have ne:∀i j:Nat,i≠j->s1.heap.objs.size+i≠s1.heap.objs.size+j:=fun i j n e=>n (Nat.add_left_cancel e)
 refine Mm hz ⟨s1.heap.objs.size+4,_,_,adN X.K a b,H1,rfl,I2,sS kT kT a b (s1.heap.objs.size+4) (s1.heap.objs.size+2) (s1.heap.objs.size+3) s1.heap.objs.size (s1.heap.objs.size+1) (ne _ _ (by decide)) (ne _ _ (by decide)) (ne _ _ (by decide)) (ne 0 _ (by decide)) (ne _ _ (by decide)) (ne _ 0 (by decide)) (ne _ _ (by decide)) (ne 0 _ (by decide)) (ne _ 0 (by decide)) (ne _ _ (by decide)),⟨hz,hp,⟨_,_,ho⟩,h1,h2⟩,fun c hc=>?_,q⟩
 simp only[bU,jH,or_false] at hc
 rcases hc with rfl | rfl | rfl | rfl | rfl
 ·exact fk 4
 ·exact fk 2
 ·exact fk 3
 ·exact fk 0
 ·exact fk 1
end
noncomputable abbrev two (elt t1 i1 t2 i2:Expr) (sc:Scope) (pos:Pos):Expr:=.ListComp elt [⟨t1,i1,[],0⟩,⟨t2,i2,[],0⟩] sc pos
theorem Wa (elt t1 i1 t2 i2:Expr) (sc:Scope) (pos:Pos) (it acc:Value) (env:Env) :
  compTurn (two elt t1 i1 t2 i2 sc pos) 1 it acc env=(standAt i2.pos >>= fun _=>pyNext it >>= fun r=>match r with
   | none=>pure (.done .next)
   | some v=>letOwnedTupleGo t2 it v >>= fun _=>assign t2 env v >>= fun _=>(eval elt env >>= fun x=>call (.builtin "list.append") [acc,x] >>= fun _=>pure ()) >>= fun _=>again (.compLoop (two elt t1 i1 t2 i2 sc pos) 1 it acc env)):=by rfl
theorem RM (elt t1 i1 t2 i2:Expr) (sc:Scope) (pos:Pos) (it acc:Value) (env:Env) :
  compTurn (two elt t1 i1 t2 i2 sc pos) 0 it acc env=(do
   standAt i1.pos
   match <- pyNext it with
   | none=>pure (.done .next)
   | some v=>
    letOwnedTupleGo t1 it v
    assign t1 env v
    let mut ok:=true
    for c in([]:List Expr) do
     if ok then ok <- isTrue c env (eval c env)
    if ok then
     let x <- eval i2 env
     standAt i2.pos
     let y <- foldedSetIterable i2 env x
     let _ <- runOwn (.compStart (two elt t1 i1 t2 i2 sc pos) 1 (<- holding [y] (pyIter y)) acc env) env
    again (.compLoop (two elt t1 i1 t2 i2 sc pos) 0 it acc env)):=by rfl
section
variable {prog:Program} {w:World} {A:Around} {R:Result->Shared->Prop} {s:Shared} {elt t1 i1 t2 i2:Expr} {sc:Scope} {pos:Pos} {it acc:Value} {env:Env}
theorem Xk (Iv:Nat->Shared->Prop)
  (turn:∀n s,Iv n s->wpAny (model prog w) A (pyNext it) (fun r s1=>match r with
   | none=>R (.ok .next) s1
   | some v=>wpAny (model prog w) A (letOwnedTupleGo t2 it v) (fun _ s2=>wpAny (model prog w) A (assign t2 env v) (fun _ s3=>wpAny (model prog w) A (eval elt env) (fun x s4=>
     wpAny (model prog w) A (call (.builtin "list.append") [acc,x]) (fun _ s5=>∃m,m<n/\Iv m s5) (fun _ _=>False) s4) (fun _ _=>False) s3) (fun _ _=>False) s2) (fun _ _=>False) s1) (fun _ _=>False) s)
  (n:Nat) (h:Iv n s):codeAny (model prog w) A (.compLoop (two elt t1 i1 t2 i2 sc pos) 1 it acc env) R s:=by
 refine codeAny_loop rfl Iv (fun n s hI=>?_) n h
 show wpAny _ _ ((compTurn (two elt t1 i1 t2 i2 sc pos) 1 it acc env).onRaise (fun x=>do noteFrame x env; theTreesLotGoes x)) _ _ s
 refine wpAny_noted ?_
 rw[Wa]
 refine aW (Dh (aW (g_ (turn n s hI) (fun r s1 q1=>?_) fun _ _ f=>f.elim)))
 cases r with
 | none=>exact bV q1
 | some v=>exact aW (g_ q1 (fun _ s2 q2=>aW (g_ q2 (fun _ s3 q3=>aW (aW (g_ q3 (fun x s4 q4=>aW (g_ q4 (fun _ s5 q5=>bV (bV ⟨rfl,q5⟩)) fun _ _ f=>f.elim)) fun _ _ f=>f.elim))) fun _ _ f=>f.elim)) fun _ _ f=>f.elim)
theorem Uj (hs:∀x,foldedSetIterable i2 env x=pure x) (Iv:Nat->Shared->Prop)
  (turn:∀n s,Iv n s->wpAny (model prog w) A (pyNext it) (fun r s1=>match r with
   | none=>R (.ok .next) s1
   | some v=>wpAny (model prog w) A (letOwnedTupleGo t1 it v) (fun _ s2=>wpAny (model prog w) A (assign t1 env v) (fun _ s3=>wpAny (model prog w) A (eval i2 env) (fun x s4=>wpAny (model prog w) A (pyIter x) (fun j s5=>
     codeAny (model prog w) A (.compStart (two elt t1 i1 t2 i2 sc pos) 1 j acc env) (fun r s6=>match r with | .ok _=>∃m,m<n/\Iv m s6 | .error _=>False) s5) (fun _ _=>False) s4) (fun _ _=>False) s3) (fun _ _=>False) s2) (fun _ _=>False) s1) (fun _ _=>False) s)
  (n:Nat) (h:Iv n s):codeAny (model prog w) A (.compLoop (two elt t1 i1 t2 i2 sc pos) 0 it acc env) R s:=by
 refine codeAny_loop rfl Iv (fun n s hI=>?_) n h
 show wpAny _ _ ((compTurn (two elt t1 i1 t2 i2 sc pos) 0 it acc env).onRaise (fun x=>do noteFrame x env; theTreesLotGoes x)) _ _ s
 refine wpAny_noted ?_
 rw[RM]
 refine aW (Dh (aW (g_ (turn n s hI) (fun r s1 q1=>?_) fun _ _ f=>f.elim)))
 cases r with
 | none=>exact bV q1
 | some v=>
  refine aW (g_ q1 (fun _ s2 q2=>aW (g_ q2 (fun _ s3 q3=>?_) fun _ _ f=>f.elim)) fun _ _ f=>f.elim)
  refine aW (g_ (wpAny_tests_nil (Q:=fun ok s'=>ok=true/\s'=s3) ⟨rfl,rfl⟩) (fun ok s' z=>?_) fun _ _ f=>f)
  obtain⟨rfl,rfl⟩:=z
  simp only[if_true]
  refine aW (g_ q3 (fun x s4 q4=>aW (Dh ?_)) fun _ _ f=>f.elim)
  refine aW (tL (hs x) (aW (pK (g_ q4 (fun j s5 q5=>?_) fun _ _ f=>f.elim))))
  refine aW (wpAny_runOwn ?_)
  refine codeAny_mono q5 fun r s6 z=>?_
  cases r with
  | ok f=>exact bV ⟨rfl,z⟩
  | error e=>exact z.elim
theorem R6 (h0:codeAny (model prog w) A (.compLoop (two elt t1 i1 t2 i2 sc pos) 1 it acc env) R s)
  (h:wpAny (model prog w) A (pyIter it) (fun j s'=>codeAny (model prog w) A (.compLoop (two elt t1 i1 t2 i2 sc pos) 1 j acc env) R s') (fun _ _=>False) s):codeAny (model prog w) A (.compStart (two elt t1 i1 t2 i2 sc pos) 1 it acc env) R s:=by
 refine codeAny_of_tree ?_
 show wpAny _ _ ((compStart (two elt t1 i1 t2 i2 sc pos) 1 it acc env).onRaise (fun x=>do noteFrame x env; standAt theWindowsPlace)) _ _ s
 refine wpAny_notedAt ?_; unfold compStart
 show wpAny _ _ (ask >>= _) _ _ s; refine aW (wpAny_askSetting (wpAny_ite ?_))
 split
 ·exact aW (bV (bV ⟨rfl,h0⟩))
 ·refine aW (rB ?_); show wpAny _ _ (standAt i2.pos >>= _) _ _ s
  exact aW (Dh (aW (g_ h (fun j s' z=>bV ⟨rfl,z⟩) fun _ _ f=>f.elim)))
end
noncomputable def Jf (js:List Nat) (wi wj:TI) (te:TE):TE:=fun σ H Q=>wi σ H fun J H1=>∀acc,H1 acc=none->∃W:Nat->Nat->List V->Hp->Prop,(∃m,W 0 m [] (upd H1 acc (.lst [])))/\∀i m ys H2,W i m ys H2 ->
 (J.stop i H2/\Q (.ref acc) H2)\/(J.go i H2/\∀x H3,J.vH i H2 x H3->wj (some x::none::b7 js σ) H3 fun L H4=>∃U:Nat->Nat->List V->Hp->Prop,(∃k,U 0 k ys H4)/\∀j k zs H5,U j k zs H5 ->
  (L.stop j H5/\∃m',m'<m/\W (i+1) m' zs H5)\/(L.go j H5/\∀y H6,L.vH j H5 y H6->te (some x::some y::b7 js σ) H6 fun v H7=>H7 acc=some (.lst zs)/\zs.length<sizeLine/\∃k',k'<k/\U (j+1) k' (zs++[v]) (upd H7 acc (.lst (zs++[v])))))
theorem Kz {X:Cx} {elt i1 i2:Expr} {x1 x2:Str} {p1 p2 pos:Pos} {sc:Scope} {wi wj:TI} {te:TE} {N':List Str} {js:List Nat} {use:Option (Value->Sem Unit)} {Qc:Value->Shared->Prop} {pins:List (Addr×Obj)} {s:Shared} {σ:St} {H:Hp} {Q:VK} {kp:Pos} (hc:X.calm=true) (hi:PI X (.Name x1 p1) i1 wi) (S:jz X 2 N' js sc)
  (h0:N'[0]?=some x1) (h1':N'[1]?=some x2) (nd:N'.Nodup) (l1:sc.names.lookup x1=some .local) (l2:sc.names.lookup x2=some .local) (hj:∀fp s H,PI (qp X N' sc fp s H) (.Name x2 p2) i2 wj) (he:∀fp s H,PE (qp X N' sc fp s H) elt te) (hs:∀x,foldedSetIterable i1 X.env x=pure x) (hs2:∀fp s H x,foldedSetIterable i2 (qp X N' sc fp s H).env x=pure x) (I:Inv X pins σ H s) (h:Jf js wi wj te σ H Q)
  (fin:∀(acc C:Addr) (H':Hp) (s':Shared),Inv X pins σ H' s'->ik X pins H' C->(∃m,s'.heap.Ns C m)->Q (.ref acc) H'->compPost (model X.prog X.w) X.A X.xe use Qc (.ref acc) C (.ok .next) s') :
  wpAny (model X.prog X.w) X.A (comprehension (two elt (.Name x1 p1) i1 (.Name x2 p2) i2 sc pos) sc X.env kp (newList []) false (eval i1 X.env) use) Qc X.xe s:=by
 refine wpAny_comprehension_free (use:=use) rfl hs S.clos S.kind S.names ?_
 refine cT (hi pins s σ H _ I h) fun v s1 q1=>cT q1 fun itv s2 q2=>?_
 obtain⟨it,fp,tn,J,H2,e,I2,T,st2,f2,q3⟩:=q2
 subst e
 refine uN ?_
 obtain⟨W,⟨m0,w0⟩,turn⟩:=q3 s2.heap.objs.size I2.fresh
 have I3:=I2.Xm (ys:=[]) (its:=[]) (t':=s2.toks) .nil (e_ _)
 have lt2:∀b∈fp,b<s2.heap.objs.size:=fun b hb=>by
  obtain⟨o,ho,_⟩:=T.obj 0 _ st2 b hb
  exact cC ho
 generalize e3:({ s2 with heap:=s2.heap.push { cls:=.type "list",data:=.seq ([]:List Value).toArray },toks:=s2.toks }:Shared)=s3 at I3
 have e3':({ s2 with heap:=s2.heap.push { cls:=.type "list",dict:=none,data:=.seq ([]:List Value).toArray } }:Shared)=s3:=e3
 have sz3:s3.heap.objs.size=s2.heap.objs.size+1:=by rw[<- e3]; exact jm ..
 have st3:tn 0 s3.heap:=T.keep 0 _ _ st2 fun b hb o ho=>by rw[<- e3]; exact dY _ ho
 have lt3:∀b∈fp,b<s3.heap.objs.size:=fun b hb=>by rw[sz3]; exact Pn (lt2 b hb)
 have f3:∀b∈fp,ik X pins (upd H2 s2.heap.objs.size (.lst [])) b:=fun b hb=>⟨by rw[aR (gw (lt2 b hb))]; exact(f2 b hb).1,(f2 b hb).2⟩
 generalize hH3:upd H2 s2.heap.objs.size (.lst [])=H3 at I3 f3 w0
 refine wpAny_newFunctionEnv S.iU (by intro y hy; simp at hy) (fun h1 hns hsb=>?_) S.kind
 have hk:∀b o,s3.heap.get? b=some o->h1.get? b=some o:=fun b o q=>hsb.extBut b o (gw (cC q)) (dY _ q)
 have hns':h1.Ns s3.heap.objs.size fun _=>none:=hns
 have I4:Inv (qp X N' sc fp s3 H3) [] (none::none::b7 js σ) H3 { s3 with heap:=h1,toks:=s3.toks+([]:List (Str×Value)).length }:=QC (nt:=2) I3 f3 lt3 S hns' hk
 have st4:tn 0 h1:=T.keep 0 _ _ st3 fun b hb o ho=>hk b o ho
 have stat:∀{H':Hp},(∀b∈fp,H' b=none)->∀b∈fp,ik (qp X N' sc fp s3 H3) [] H' b:=fun hn b hb=>⟨hn b hb,gw (lt3 b hb),I4.ok.Kr b hb,.inl hb,(I4.ok.exf b hb).2,fun p hp=>absurd (show p∈([]:List (Addr×Obj)) from hp) (by simp)⟩
 have out:∀{σ':St} {H':Hp} {s':Shared},Inv (qp X N' sc fp s3 H3) [] σ' H' s'->Q (.ref s2.heap.objs.size) H'->compPost (model X.prog X.w) X.A X.xe use Qc (.ref s2.heap.objs.size) s3.heap.objs.size (.ok .next) s':=by
  intro σ' H' s' I' q'
  obtain⟨m,hn,_⟩:=id I'.loc
  have I5:Inv X pins σ H' s':=I3.call' I'.os I'.base I'.hok I'.bare fun b hb=>⟨(f3 b hb).2.2.2.1,(f3 b hb).2.1,(f3 b hb).2.2.2.2.1,(f3 b hb).2.2.2.2.2⟩
  exact fin _ _ H' s' I5 (I3.tY (bI _) I'.free) ⟨m,hn⟩ q'
 have loop:∀s4:Shared,s4={ s3 with heap:=h1,toks:=s3.toks+([]:List (Str×Value)).length }->codeAny (model X.prog X.w) X.A (.compLoop (two elt (.Name x1 p1) i1 (.Name x2 p2) i2 sc pos) 0 (.ref it) (.ref s2.heap.objs.size) (compEnvC sc (qw sc X.env) s3.heap.objs.size X.env))
   (compPost (model X.prog X.w) X.A X.xe use Qc (.ref s2.heap.objs.size) s3.heap.objs.size) s4:=by
  rintro s4 rfl
  refine Uj (hs2 fp s3 H3) (fun n s'=>∃i ys H',Inv (qp X N' sc fp s3 H3) [] (none::none::b7 js σ) H' s'/\tn i s'.heap/\(∀b∈fp,H' b=none)/\W i n ys H') ?_ m0 ⟨0,[],H3,I4,st4,fun b hb=>(f3 b hb).1,w0⟩
  rintro n s5 ⟨i,ys,H5,I5,Wj,fr5,w5⟩
  rcases turn i n ys H5 w5 with⟨stop,qn⟩ | ⟨go,step⟩
  ·refine cT (T.done (qp X N' sc fp s3 H3) rfl rfl rfl hc i [] s5 _ H5 (fun _ _=>False) I5 (stat fr5) Wj stop) fun r s6 qx=>?_
   obtain⟨hr,I6⟩:=qx
   subst hr
   exact out I6 qn
  ·refine cT (T.item (qp X N' sc fp s3 H3) rfl rfl rfl hc i [] s5 _ H5 (fun _ _=>False) I5 (stat fr5) Wj go) fun r s6 qx=>?_
   obtain⟨u,hr,q6⟩:=qx
   subst hr
   refine cT q6 fun _ s7 qx=>?_
   obtain⟨y,H7,I7,r7,y7,Wi,fr7⟩:=qx
   have I7':=I7.pinned (stat fr7) (T.obj _ _ Wi)
   have g1:PG (qp X N' sc fp s3 H3) (.Name x1 p1) (eU 0):=aF nd h0 (.inl (iJ l1)) (.inr (iJ l1))
   have g2:PG (qp X N' sc fp s3 H3) (.Name x2 p2) (eU 1):=aF nd h1' (.inl (iJ l2)) (.inr (iJ l2))
   refine cT (g1 _ s7 _ H7 y u (fun σ' H'=>σ'=some y::none::b7 js σ/\H'=H7) I7' r7 ⟨rfl,rfl⟩) fun _ s8 qx=>?_
   obtain⟨σ8,H8,I8,e8,e8'⟩:=qx
   subst e8 e8'
   refine cT (hj fp s3 H3 _ s8 _ _ _ I8 (step y _ y7)) fun v9 s9 q9=>cT q9 fun itv nq q10=>?_
   obtain⟨it2,fp2,tn2,L,uL,e10,I10,T2,acy,f10,U,⟨k0,u0⟩,ace⟩:=q10
   subst e10
   have R5:∀{H':Hp},(∀b∈fp2,H' b=none)->∀b∈fp2,ik (qp X N' sc fp s3 H3) _ H' b:=fun hn b hb=>⟨hn b hb,(f10 b hb).2⟩
   have Y0:codeAny (model X.prog X.w) X.A (.compLoop (two elt (.Name x1 p1) i1 (.Name x2 p2) i2 sc pos) 1 (.ref it2) (.ref s2.heap.objs.size) (compEnvC sc (qw sc X.env) s3.heap.objs.size X.env))
     (fun r s6=>match r with | .ok _=>∃m,m<n/\∃i ys H',Inv (qp X N' sc fp s3 H3) [] (none::none::b7 js σ) H' s6/\tn i s6.heap/\(∀b∈fp,H' b=none)/\W i m ys H' | .error _=>False) nq:=by
    refine Xk (fun k s'=>∃j zs H',Inv (qp X N' sc fp s3 H3) _ (some y::none::b7 js σ) H' s'/\tn2 j s'.heap/\(∀b∈fp2,H' b=none)/\U j k zs H') ?_ k0 ⟨0,ys,uL,I10,acy,fun b hb=>(f10 b hb).1,u0⟩
    rintro k pR ⟨j,zs,sG,I11,acx,ado,w11⟩
    rcases ace j k zs sG w11 with⟨acr,m',hm,qn2⟩ | ⟨go2,acu⟩
    ·refine cT (T2.done (qp X N' sc fp s3 H3) rfl rfl rfl hc j _ pR _ sG (fun _ _=>False) I11 (R5 ado) acx acr) fun r s12 qx=>?_
     obtain⟨hr,I12⟩:=qx
     subst hr
     refine⟨m',hm,i+1,zs,sG,(I12.jc).weak rfl fun q v e=>?_,T.keep _ _ _ Wi fun b hb o e=>(I12.pin (b,o) (jf _ (jf _ (dD hb e)))).1,fun b hb=>?_,qn2⟩
     ·cases q with
      | zero=>simp at e
      | succ q=>simpa using e
     ·obtain⟨o,e,d⟩:=T.obj _ _ Wi b hb
      exact(I12.pin (b,o) (jf _ (jf _ (dD hb e)))).2.1
    ·refine cT (T2.item (qp X N' sc fp s3 H3) rfl rfl rfl hc j _ pR _ sG (fun _ _=>False) I11 (R5 ado) acx go2) fun r s12 qx=>?_
     obtain⟨u2,hr,q12⟩:=qx
     subst hr
     refine cT q12 fun _ jA qx=>?_
     obtain⟨y2,Iz,I13,r13,y13,ZQ,afp⟩:=qx
     have agn:=I13.pinned (R5 afp) (T2.obj _ _ ZQ)
     refine cT (g2 _ jA _ Iz y2 u2 (fun σ' H'=>σ'=some y::some y2::b7 js σ/\H'=Iz) agn r13 ⟨rfl,rfl⟩) fun _ Dd qx=>?_
     obtain⟨σ14,Ye,I14,Ku,afW⟩:=qx
     subst Ku afW
     refine cT (he fp s3 H3 _ Dd _ _ _ I14 (acu y2 _ y13)) fun z Ma qx=>?_
     obtain⟨vz,La,I15,r15,ha,hz,k',hk',w15⟩:=qx
     refine cT (fG (X:=qp X N' sc fp s3 H3) _ Ma _ La (.ref s2.heap.objs.size) [vz] (.ref s2.heap.objs.size) [z] (fun _ H'=>H'=upd La s2.heap.objs.size (.lst (zs++[vz]))) I15 rfl (.cons r15 .nil) ⟨_,zs,vz,rfl,rfl,ha,hz,rfl⟩) fun _ Dc qx=>?_
     obtain⟨_,Ri,I16,_,QL⟩:=qx
     subst QL
     refine⟨k',hk',j+1,zs++[vz],_,(I16.jc).weak rfl fun q v e=>?_,T2.keep _ _ _ ZQ fun b hb o e=>(I16.pin (b,o) (jf _ (jf _ (dD hb e)))).1,fun b hb=>?_,w15⟩
     ·match q,e with
      | 0,e=>simpa using e
      | 1,e=>simp at e
      | q+2,e=>simpa using e
     ·obtain⟨o,e,d⟩:=T2.obj _ _ ZQ b hb
      exact(I16.pin (b,o) (jf _ (jf _ (dD hb e)))).2.1
   exact R6 Y0 (T2.self X.A 0 _ _ _ acy Y0)
 exact codeAny_compStart_list (loop _ rfl) (T.self X.A 0 _ _ _ st4 (loop _ rfl))
theorem bH {X:Cx} {K:PySem.W.Frag} {pos:Pos} {es:List Expr} {k:Nat} {t:Vu} {n:Nat} (hK:X.K=K) (hc:X.calm=true) (h:PGs X es t)
  (hn:(assignEach es X.env).length=n:=by rfl) (hst:(assignEach es X.env).findIdx? (·.1)=none:=by rfl):PG X (.Tuple es k pos) (J7 K n t):=by
 subst hK
 exact aaj hc h hn hst
theorem fU {X:Cx} {K:PySem.W.Frag} {tg l:Expr} {tl:TE} (hK:X.K=K) (hl:PE X l tl):PI X tg l (xZ K tl):=by
 subst hK
 exact aah hl
theorem jK {X:Cx} {K:PySem.W.Frag} {tg l:Expr} {tl:TE} (hK:X.K=K) (hl:PE X l tl):PI X tg l (x_ K tl):=by
 subst hK
 exact WX hl
theorem TQ {X:Cx} {elt i1 i2:Expr} {x1 x2:Str} {p1 p2 pos:Pos} {sc:Scope} {wi wj:TI} {te:TE} {N':List Str} {js:List Nat} (hc:X.calm=true) (hi:PI X (.Name x1 p1) i1 wi) (S:jz X 2 N' js sc)
  (h0:N'[0]?=some x1) (h1':N'[1]?=some x2) (nd:N'.Nodup) (l1:sc.names.lookup x1=some .local) (l2:sc.names.lookup x2=some .local) (hj:∀fp s H,PI (qp X N' sc fp s H) (.Name x2 p2) i2 wj) (he:∀fp s H,PE (qp X N' sc fp s H) elt te) (hs:∀x,foldedSetIterable i1 X.env x=pure x:=by intro _; rfl) (hs2:∀fp s H x,foldedSetIterable i2 (qp X N' sc fp s H).env x=pure x:=by intro _ _ _ _; rfl) :
  PE X (two elt (.Name x1 p1) i1 (.Name x2 p2) i2 sc pos) (Jf js wi wj te):=by
 refine .mk ?_
 intro pins s σ H Q I h
 rw[eval_ListComp]
 refine Kz (use:=none) hc hi S h0 h1' nd l1 l2 hj he hs hs2 I h fun acc C H' s' I5 fc ⟨m,hn⟩ q=>?_
 refine⟨m,hn,fun h' sb=>?_⟩
 exact⟨.ref acc,H',I5.turned (it:=C) (t':=s'.toks) (fun b o hb q=>sb.extBut b o hb q) fc.1 fc.2.1 fc.2.2.2.1 fc.2.2.2.2.1 fc.2.2.2.2.2,rfl,q⟩
theorem qu {K:PySem.W.Frag} {js:List Nat} {J:It} {te:TE} {σ:St} {H:Hp} {Q:VK} {acc:Addr} {es:List PyData} (xv yv:Nat->V) (hz:es.length<=sizeLine) (hL:bN es=true) (hacc:H acc=none)
  (go:∀i H',i<es.length->aG H H'->J.go i H') (yl:∀i H' v cY,i<es.length->aG H H'->J.vH i H' v cY->∃p,H' p=none/\v=.ref p/\cY=upd H' p (.tup [xv i,yv i])) (st:∀H',aG H H'->J.stop es.length H')
  (val:∀(i:Nat) e H',es[i]?=some e->aG H H'->∀R:VK,(∀v cY,aG H' cY->At cY e v->R v cY)->te (some (xv i)::some (yv i)::b7 js σ) H' R)
  (fin:∀ys H',aG H H'->H' acc=some (.lst ys)->ak (hid acc H') es ys->Q (.ref acc) H') :
  ∃W:Nat->Nat->List V->Hp->Prop,(∃m,W 0 m [] (upd H acc (.lst [])))/\∀i m ys H2,W i m ys H2 ->
   (J.stop i H2/\Q (.ref acc) H2)\/(J.go i H2/\∀x H3,J.vH i H2 x H3->J7 K 2 (jO (eU 0) (jO (eU 1) zu)) x (List.replicate 2 none++b7 js σ) H3 fun σ' H'=>(σ'.drop 2=b7 js σ/\σ'.length=(List.replicate 2 (none:Option V)++b7 js σ).length)/\pY σ' H' fun b cY=>
    if b=true then te σ' cY fun y H4=>H4 acc=some (.lst ys)/\ys.length<sizeLine/\∃m',m'<m/\W (i+1) m' (ys++[y]) (upd H4 acc (.lst (ys++[y]))) else ∃m',m'<m/\W (i+1) m' ys cY):=by
 refine⟨fun i m ys H2=>m=es.length-i/\i<=es.length/\ak (hid acc H2) (es.take i) ys/\aG H H2/\H2 acc=some (.lst ys),⟨_,rfl,e_ _,ak.nil,aM hacc _,aC⟩,?_⟩
 rintro i m ys H2 ⟨rfl,hi,hA,sm,hy⟩
 by_cases hlt:i<es.length
 ·refine .inr ⟨go i H2 hlt sm,fun x H3 y=>?_⟩
  obtain⟨p,fp,rfl,rfl⟩:=yl i H2 x H3 hlt sm y
  refine⟨p,_,rfl,cB.of aC,rfl,(show(_=_/\_=_)/\pY _ _ _ from⟨⟨rfl,by simp⟩,?_⟩)⟩
  unfold pY
  simp only[if_true]
  have e1:es[i]?=some es[i]:=fD hlt
  have s3:aG H2 (upd H2 p (.tup [xv i,yv i])):=aM fp _
  refine val i _ _ e1 (sm.trans s3) _ fun v H4 s4 a4=>⟨s4 _ _ (s3 _ _ hy),?_,es.length-(i+1),by omega,rfl,hlt,?_,?_,aC⟩
  ·rw[hA.length,jG]; omega
  ·rw[iD,Dj,e1]
   exact ak.append (hA.mono (aG.hid (s3.trans s4))) (ak.cons (At.uT (s4 _ _ (s3 _ _ hy)) _ _ (jM hL e1) a4) ak.nil)
  ·refine fun b o q=>?_
   have nb:b≠acc:=bQ q hacc
   rw[aR nb]
   exact s4 _ _ (s3 _ _ (sm _ _ q))
 ·have e:i=es.length:=by omega
  subst e
  rw[pL] at hA
  exact .inl ⟨st _ sm,fin _ _ sm hy hA⟩
theorem BL {K:PySem.W.Frag} {js:List Nat} {a b:Addr} {xs ys:List V} {es:List PyData} {ta:TA} {te:TE} {σ:St} {H:Hp} {Q:VK} (hl:∀R:List V->Hp->Prop,R [.ref a,.ref b] H->ta σ H R) (ha:H a=some (.tup xs)) (hb:H b=some (.tup ys)) (n1:xs.length=es.length) (n2:ys.length=es.length) (hz:es.length<=sizeLine) (hL:bN es=true)
  (val:∀(i:Nat) x y e H',xs[i]?=some x->ys[i]?=some y->es[i]?=some e->aG H H'->∀R:VK,(∀v cY,aG H' cY->At cY e v->R v cY)->te (some x::some y::b7 js σ) H' R)
  (fin:∀acc zs H',aG H H'->H acc=none->H' acc=some (.lst zs)->ak (hid acc H') es zs->Q (.ref acc) H'):eV 2 js (HH K ta) (J7 K 2 (jO (eU 0) (jO (eU 1) zu))) pY te σ H Q:=by
 refine hl _ ⟨a,b,rfl,⟨xs,cB.of ha⟩,⟨ys,cB.of hb⟩,fun acc hacc=>?_⟩
 have gx:∀i,i<es.length->xs[i]?=some (xs.getD i .non):=fun i hi=>by rw[gC,fD (by omega)]; rfl
 have gy:∀i,i<es.length->ys[i]?=some (ys.getD i .non):=fun i hi=>by rw[gC,fD (by omega)]; rfl
 refine qu (es:=es) (fun i=>xs.getD i .non) (fun i=>ys.getD i .non) hz hL hacc (fun i H' hi s=>⟨xs,ys,_,_,cB.of (s _ _ ha),cB.of (s _ _ hb),gx i hi,gy i hi⟩) (fun i H' v cY hi s y=>?_) (fun H' s=>⟨xs,ys,cB.of (s _ _ ha),cB.of (s _ _ hb),.inl n1.symm⟩) (fun i e H' he s R hR=>?_) fun zs H' s h1 h2=>fin acc zs H' s hacc h1 h2
 ·obtain⟨p,x,y,fp,e1,e2,h1,h2⟩:=y
  have q1:=h1 xs (cB.of (s _ _ ha))
  have q2:=h2 ys (cB.of (s _ _ hb))
  rw[gx i hi] at q1
  rw[gy i hi] at q2
  cases q1
  cases q2
  exact⟨p,fp,e1,e2⟩
 ·have hi:i<es.length:=by
   by_cases z:i<es.length
   ·exact z
   ·rw[S_ (by omega)] at he; cases he
  exact val i _ _ e H' (gx i hi) (gy i hi) he s R hR
theorem Ky {K:PySem.W.Frag} {js:List Nat} {a:Addr} {ys:List V} {es:List PyData} {ta:TA} {te:TE} {σ:St} {H:Hp} {Q:VK} (hl:∀R:List V->Hp->Prop,R [.ref a] H->ta σ H R) (hb:H a=some (.tup ys)) (n2:ys.length=es.length) (hz:es.length<=sizeLine) (hL:bN es=true)
  (val:∀(i:Nat) y e H',ys[i]?=some y->es[i]?=some e->aG H H'->∀R:VK,(∀v cY,aG H' cY->At cY e v->R v cY)->te (some (.int (i:Nat))::some y::b7 js σ) H' R)
  (fin:∀acc zs H',aG H H'->H acc=none->H' acc=some (.lst zs)->ak (hid acc H') es zs->Q (.ref acc) H'):eV 2 js (J6 K ta) (J7 K 2 (jO (eU 0) (jO (eU 1) zu))) pY te σ H Q:=by
 refine hl _ ⟨a,rfl,⟨ys,cB.of hb⟩,fun acc hacc=>?_⟩
 have gy:∀i,i<es.length->ys[i]?=some (ys.getD i .non):=fun i hi=>by rw[gC,fD (by omega)]; rfl
 refine qu (es:=es) (fun i=>.int (i:Nat)) (fun i=>ys.getD i .non) hz hL hacc (fun i H' hi s=>⟨ys,_,cB.of (s _ _ hb),gy i hi⟩) (fun i H' v cY hi s y=>?_) (fun H' s=>⟨ys,cB.of (s _ _ hb),n2⟩) (fun i e H' he s R hR=>?_) fun zs H' s h1 h2=>fin acc zs H' s hacc h1 h2
 ·obtain⟨p,y,fp,e1,e2,h2⟩:=y
  have q2:=h2 ys (cB.of (s _ _ hb))
  rw[gy i hi] at q2
  cases q2
  exact⟨p,fp,e1,e2⟩
 ·have hi:i<es.length:=by
   by_cases z:i<es.length
   ·exact z
   ·rw[S_ (by omega)] at he; cases he
  exact val i _ e H' (gy i hi) he s R hR
theorem Vd {K:PySem.W.Frag} {js:List Nat} {xs:List V} {es:List PyData} {te:TE} {σ:St} {H:Hp} {Q:VK} (hn:es.length=xs.length) (hz:es.length<=sizeLine) (hL:bN es=true)
  (step:∀(i:Nat) x e H',xs[i]?=some x->es[i]?=some e->aG H H'->∀R:VK,(∀v cY,aG H' cY->At cY e v->R v cY)->te (some x::b7 js σ) H' R)
  (fin:∀acc ys H',aG H H'->H acc=none->H' acc=some (.lst ys)->ak (hid acc H') es ys->Q (.ref acc) H'):ir js (xZ K (ZF K xs)) te σ H Q:=by
 intro a _ ht
 refine⟨a,rfl,⟨xs,ht H⟩,fun acc hacc=>?_⟩
 refine⟨fun i m ys H2=>m=es.length-i/\i<=es.length/\ak (hid acc H2) (es.take i) ys/\aG H H2/\H2 acc=some (.lst ys),⟨_,rfl,e_ _,ak.nil,aM hacc _,aC⟩,?_⟩
 rintro i m ys H2 ⟨rfl,hi,hA,sm,hy⟩
 by_cases hlt:i<es.length
 ·refine .inr ⟨⟨xs,xs[i]'(by omega),ht _,fD (by omega)⟩,fun x H3 y=>?_⟩
  obtain⟨e,y⟩:=y
  subst e
  have e1:es[i]?=some es[i]:=fD hlt
  refine step i x _ _ (y xs (ht _)) e1 sm _ fun v H4 s4 a4=>⟨s4 _ _ hy,?_,es.length-(i+1),by omega,rfl,hlt,?_,?_,aC⟩
  ·rw[hA.length,jG]; omega
  ·rw[iD,Dj,e1]
   exact ak.append (hA.mono (aG.hid s4)) (ak.cons (At.uT (s4 _ _ hy) _ _ (jM hL e1) a4) ak.nil)
  ·refine fun b o q=>?_
   have nb:b≠acc:=bQ q hacc
   rw[aR nb]
   exact s4 _ _ (sm _ _ q)
 ·have e:i=es.length:=by omega
  subst e
  rw[pL] at hA
  exact .inl ⟨⟨xs,ht _,by omega⟩,fin _ _ _ sm hacc hy hA⟩
theorem Ve {K:PySem.W.Frag} {js:List Nat} {a:Addr} {xs:List V} {tl tm te:TE} {σ:St} {H:Hp} {Q:VK} (ym:List (List PyData)) (hl:∀R:VK,R (.ref a) H->tl σ H R) (ha:H a=some (.tup xs)) (hA:ak H (ym.map PyData.tuple) xs) (hn:ym.flatten.length<=1000)
  (hm:∀x H' (R:VK),R x H'->tm (some x::none::b7 js σ) H' R) (he:∀x y H' (R:VK),R y H'->te (some x::some y::b7 js σ) H' R)
  (fin:∀acc ys H',aG H H'->H acc=none->H' acc=some (.lst ys)->ak H ym.flatten ys->Q (.ref acc) H'):Jf js (xZ K tl) (xZ K tm) te σ H Q:=by
 refine hl _ ⟨a,rfl,⟨xs,cB.of ha⟩,fun acc hacc=>?_⟩
 have hlen:xs.length=ym.length:=by rw[hA.length,bM]
 have tl':∀i,(ym.take i).flatten.length<=ym.flatten.length:=fun i=>by
  have:ym.flatten=(ym.take i).flatten++(ym.drop i).flatten:=by rw[<- List.flatten_append,List.take_append_drop]
  rw[this,gH]; omega
 refine⟨fun i m ys H2=>m=ym.length-i/\i<=ym.length/\ak H (ym.take i).flatten ys/\aG H H2/\H2 acc=some (.lst ys),⟨_,rfl,e_ _,ak.nil,aM hacc _,aC⟩,?_⟩
 rintro i m ys H2 ⟨rfl,hi,hA2,sm,hy⟩
 have ht:cB K H2 a xs:=cB.of (sm _ _ ha)
 by_cases hlt:i<ym.length
 ·refine .inr ⟨⟨xs,xs[i]'(by omega),ht,fD (by omega)⟩,fun x H3 y=>?_⟩
  obtain⟨e,y⟩:=y
  subst e
  have hx:=y xs ht
  have e1:ym[i]?=some ym[i]:=fD hlt
  obtain⟨x',hx',ax⟩:=hA.getD (show(ym.map PyData.tuple)[i]?=some (.tuple ym[i]) by rw[fQ,e1]; rfl)
  rw[hx] at hx'
  cases hx'
  generalize hds:ym[i]=ds at *
  unfold At at ax
  obtain⟨b,zs,rfl,hb,aB⟩:=ax
  have ef:(ym.take (i+1)).flatten=(ym.take i).flatten++ds:=by rw[Dj,e1]; simp
  refine hm _ _ _ ⟨b,rfl,⟨zs,cB.of (sm _ _ hb)⟩,?_⟩
  refine⟨fun j k ws H5=>k=ds.length-j/\j<=ds.length/\ak H ((ym.take i).flatten++ds.take j) ws/\aG H H5/\H5 acc=some (.lst ws),⟨_,rfl,e_ _,by simpa using hA2,sm,hy⟩,?_⟩
  rintro j k ws H5 ⟨rfl,hj,hA5,sm5,hy5⟩
  have ht5:cB K H5 b zs:=cB.of (sm5 _ _ hb)
  have hzl:=aB.length
  by_cases hjt:j<ds.length
  ·refine .inr ⟨⟨zs,zs[j]'(by omega),ht5,fD (by omega)⟩,fun u H6 yu=>?_⟩
   obtain⟨e,yu⟩:=yu
   subst e
   have hu:=yu zs ht5
   obtain⟨d,hd,au⟩:=aB.get hu
   refine he _ _ _ _ ⟨hy5,bu ?_,ds.length-(j+1),by omega,rfl,hjt,?_,sm5.eZ hacc,aC⟩
   ·have:=hA5.length
    rw[gH,jG] at this
    have t2:=tl' (i+1)
    rw[ef,gH] at t2
    omega
   ·rw[Dj,hd,<- wR]
    exact hA5.append (ak.cons au ak.nil)
  ·have ej:j=ds.length:=by omega
   subst ej
   rw[pL] at hA5
   refine .inl ⟨⟨zs,ht5,by omega⟩,ym.length-(i+1),by omega,rfl,hlt,by rw[ef]; exact hA5,sm5,hy5⟩
 ·have e:i=ym.length:=by omega
  subst e
  rw[pL] at hA2
  exact .inl ⟨⟨xs,ht,by omega⟩,fin _ _ _ sm hacc hy hA2⟩
section
variable {X:Cx} {pins:List (Addr×Obj)} {σ:St} {H:Hp} {s:Shared} {A:Around} {E:Value->Shared->Prop} {Q:Value->Shared->Prop} {b:Bool}
theorem J3 {x:V} {u t:Value} {tp:Addr} {its:List Value} (I:Inv X pins σ H s) (rx:RelV x u) (ty:sy X.K H x t) (htp:IsTup s.heap tp its.toArray) (e:PySem.W.kitAny X.K t its=some b) (h:∀tk,Q (.bool b) { s with toks:=tk }) :
  wpAny (model X.prog X.w) A (call (.builtin "isinstance") [u,.ref tp]) Q E s:=by
 obtain⟨o,ho,hc,n,hd⟩:=htp
 obtain⟨cls,dd,data,sl⟩:=o
 cases hc
 cases hd
 cases ty with
 | non=>cases(show u=Value.none from rx); exact PySem.W.kia_tup PySem.W.kitx_none I.oE True.intro ho e (fun z=>nomatch z) h
 | bl y=>cases(show u=Value.bool y from rx); exact PySem.W.kia_tup PySem.W.kitx_bool I.oE True.intro ho e (fun z=>nomatch z) h
 | int i=>obtain⟨t,q⟩:=(show ∃t,u=Value.int i t from rx); cases q; exact PySem.W.kia_tup PySem.W.kitx_int I.oE True.intro ho e (fun z=>nomatch z) h
 | str y=>obtain⟨t,q⟩:=(show ∃t,u=Value.str y t from rx); cases q; exact PySem.W.kia_tup PySem.W.kitx_str I.oE True.intro ho e (fun z=>nomatch z) h
 | flt y=>obtain⟨t,q⟩:=(show ∃t,u=Value.float y t from rx); cases q; exact PySem.W.kia_tup PySem.W.kitx_float I.oE True.intro ho e (fun z=>nomatch z) h
 | @lst a xs ea=>
  cases(show u=Value.ref a from rx)
  obtain⟨_,_,n,_,h1⟩:=(show cz X.prog X.w H s.heap a (.lst xs) from I.hok a _ ea)
  exact PySem.W.kia_tup PySem.W.kitx_list I.oE ⟨_,h1,rfl⟩ ho e (fun z=>nomatch z) h
 | @Fl a ob xs ea=>
  cases(show u=Value.ref a from rx)
  obtain⟨_,_,_,n,_,h1⟩:=(show cz X.prog X.w H s.heap a (.Fl ob (.lst xs)) from I.hok a _ ea)
  exact PySem.W.kia_tup PySem.W.kitx_list I.oE ⟨_,h1,rfl⟩ ho e (fun z=>nomatch z) h
 | @tup a xs ea=>
  cases(show u=Value.ref a from rx)
  obtain⟨_,_,_,p⟩:=(show cz X.prog X.w H s.heap a (.tup xs) from I.hok a _ ea)
  obtain⟨o,h1,h2,_⟩:=p
  exact PySem.W.kia_tup PySem.W.kitx_tuple I.oE ⟨o,h1,h2⟩ ho e (fun z=>nomatch z) h
 | @dK a kvs ea=>
  cases(show u=Value.ref a from rx)
  obtain⟨_,_,vs,_,p⟩:=(show cz X.prog X.w H s.heap a (.dK kvs) from I.hok a _ ea)
  obtain⟨o,es,ep,h1,h2,_⟩:=p
  exact PySem.W.kia_tup PySem.W.kitx_dict I.oE ⟨o,h1,h2.1⟩ ho e (fun z=>nomatch z) h
 | @dT a kvs ea=>
  cases(show u=Value.ref a from rx)
  obtain⟨_,_,xs,_,o,es,ep,h1,h2,_⟩:=(show cz X.prog X.w H s.heap a (.dT kvs) from I.hok a _ ea)
  exact PySem.W.kia_tup PySem.W.kitx_dict I.oE ⟨o,h1,h2.1⟩ ho e (fun z=>nomatch z) h
 | @ins a C dx fs ea cl ha hn htk hm=>
  cases(show u=Value.ref a from rx)
  obtain⟨mA,O,_⟩:=Nz I.hok ea
  obtain⟨od,J,_⟩:=O.look
  exact PySem.W.kia_tup (PySem.W.kitx_own (cl.get _) cl.hd ha hn htk hm) I.oE J ho e (fun z=>nomatch z) h
end
section
variable {X:Cx}
theorem aaM (K:PySem.W.Frag) (d:PyData):PySem.W.kitAny K (.type (VF d)) [.type "list",.type "tuple"]=some (Bp d || isTup d):=by
 show(match PySem.W.kitOne K (.type (VF d)) (.type "list") with | some true=>some true | some false=>(match PySem.W.kitOne K (.type (VF d)) (.type "tuple") with | some true=>some true | some false=>some false | none=>none) | none=>none)=_
 rw[Nm,Nk]
 cases Bp d <;> cases isTup d <;> rfl
theorem aaU:cV X (.builtin "isinstance") (fun vs H Q=>∃(v:V) (d:PyData) (p:Addr),vs=[v,.ref p]/\At H d v/\H p=some (.tup [.ty "list",.ty "tuple"])/\Q (.bl (Bp d || isTup d)) H):=by
 refine .mk ?_
 intro pins s σ H vs us Q I r h
 obtain⟨v,d,p,rfl,hv,hp,q⟩:=h
 obtain⟨u,t,rfl,ru,rt⟩:=r.two
 cases(show t=Value.ref p from rt)
 obtain⟨_,its,ri,ht⟩:=(show cz X.prog X.w H s.heap p (.tup [.ty "list",.ty "tuple"]) from I.hok p _ hp)
 have e:its=[Value.type "list",Value.type "tuple"]:=by
  obtain⟨a,b,rfl,ra,rb⟩:=ri.two
  cases(show a=Value.type "list" from ra)
  cases(show b=Value.type "tuple" from rb)
  rfl
 subst e
 exact J3 I ru (hv.ty (K:=X.K)) ht (aaM X.K d) fun tk=>⟨.bl (Bp d || isTup d),H,I.tok tk,rfl,q⟩
end
theorem qt {nt:Nat} {g:TG} {js:List Nat} {J:It} {te:TE} {σ:St} {H:Hp} {Q:VK} {acc:Addr} {es:List PyData} (τ:Nat->St) (hτ:∀i,(τ i).length=nt) (hz:es.length<=sizeLine) (hL:bN es=true) (hacc:H acc=none)
  (go:∀i H',i<es.length->aG H H'->J.go i H')
  (yl:∀i H' v cY,i<es.length->aG H H'->J.vH i H' v cY->aG H' cY/\∀R:St->Hp->Prop,R (τ i++b7 js σ) cY->g v (List.replicate nt none++b7 js σ) cY R) (st:∀H',aG H H'->J.stop es.length H')
  (val:∀(i:Nat) e H',es[i]?=some e->aG H H'->∀R:VK,(∀v cY,aG H' cY->At cY e v->R v cY)->te (τ i++b7 js σ) H' R)
  (fin:∀ys H',aG H H'->H' acc=some (.lst ys)->ak (hid acc H') es ys->Q (.ref acc) H') :
  ∃W:Nat->Nat->List V->Hp->Prop,(∃m,W 0 m [] (upd H acc (.lst [])))/\∀i m ys H2,W i m ys H2 ->
   (J.stop i H2/\Q (.ref acc) H2)\/(J.go i H2/\∀x H3,J.vH i H2 x H3->g x (List.replicate nt none++b7 js σ) H3 fun σ' H'=>(σ'.drop nt=b7 js σ/\σ'.length=(List.replicate nt (none:Option V)++b7 js σ).length)/\pY σ' H' fun b cY=>
    if b=true then te σ' cY fun y H4=>H4 acc=some (.lst ys)/\ys.length<sizeLine/\∃m',m'<m/\W (i+1) m' (ys++[y]) (upd H4 acc (.lst (ys++[y]))) else ∃m',m'<m/\W (i+1) m' ys cY):=by
 refine⟨fun i m ys H2=>m=es.length-i/\i<=es.length/\ak (hid acc H2) (es.take i) ys/\aG H H2/\H2 acc=some (.lst ys),⟨_,rfl,e_ _,ak.nil,aM hacc _,aC⟩,?_⟩
 rintro i m ys H2 ⟨rfl,hi,hA,sm,hy⟩
 by_cases hlt:i<es.length
 ·refine .inr ⟨go i H2 hlt sm,fun x H3 y=>?_⟩
  obtain⟨s3,gg⟩:=yl i H2 x H3 hlt sm y
  refine gg _ ⟨⟨?_,?_⟩,?_⟩
  ·rw[List.drop_append_of_le_length (by rw[hτ]; exact bI _),<- hτ i,Bc,Az]
  ·rw[gH,gH,hτ,Gv]
  unfold pY
  simp only[if_true]
  have e1:es[i]?=some es[i]:=fD hlt
  refine val i _ _ e1 (sm.trans s3) _ fun v H4 s4 a4=>⟨s4 _ _ (s3 _ _ hy),?_,es.length-(i+1),by omega,rfl,hlt,?_,?_,aC⟩
  ·rw[hA.length,jG]; omega
  ·rw[iD,Dj,e1]
   exact ak.append (hA.mono (aG.hid (s3.trans s4))) (ak.cons (At.uT (s4 _ _ (s3 _ _ hy)) _ _ (jM hL e1) a4) ak.nil)
  ·refine fun b o q=>?_
   have nb:b≠acc:=bQ q hacc
   rw[aR nb]
   exact s4 _ _ (s3 _ _ (sm _ _ q))
 ·have e:i=es.length:=by omega
  subst e
  rw[pL] at hA
  exact .inl ⟨st _ sm,fin _ _ sm hy hA⟩
theorem ud {K:PySem.W.Frag} {nt:Nat} {g:TG} {js:List Nat} {a b:Addr} {xs ys:List V} {es:List PyData} {ta:TA} {te:TE} {σ:St} {H:Hp} {Q:VK} (τ:Nat->St) (hτ:∀i,(τ i).length=nt) (hl:∀R:List V->Hp->Prop,R [.ref a,.ref b] H->ta σ H R) (ha:H a=some (.tup xs)) (hb:H b=some (.tup ys)) (n1:xs.length=es.length) (n2:ys.length=es.length) (hz:es.length<=sizeLine) (hL:bN es=true)
  (tgt:∀(i:Nat) x y p H',xs[i]?=some x->ys[i]?=some y->aG H H'->H' p=some (.tup [x,y])->∀R:St->Hp->Prop,R (τ i++b7 js σ) H'->g (.ref p) (List.replicate nt none++b7 js σ) H' R)
  (val:∀(i:Nat) e H',es[i]?=some e->aG H H'->∀R:VK,(∀v cY,aG H' cY->At cY e v->R v cY)->te (τ i++b7 js σ) H' R)
  (fin:∀acc zs H',aG H H'->H acc=none->H' acc=some (.lst zs)->ak (hid acc H') es zs->Q (.ref acc) H'):eV nt js (HH K ta) g pY te σ H Q:=by
 refine hl _ ⟨a,b,rfl,⟨xs,cB.of ha⟩,⟨ys,cB.of hb⟩,fun acc hacc=>?_⟩
 have gx:∀i,i<es.length->xs[i]?=some (xs.getD i .non):=fun i hi=>by rw[gC,fD (by omega)]; rfl
 have gy:∀i,i<es.length->ys[i]?=some (ys.getD i .non):=fun i hi=>by rw[gC,fD (by omega)]; rfl
 refine qt (es:=es) τ hτ hz hL hacc (fun i H' hi s=>⟨xs,ys,_,_,cB.of (s _ _ ha),cB.of (s _ _ hb),gx i hi,gy i hi⟩) (fun i H' v cY hi s y=>?_) (fun H' s=>⟨xs,ys,cB.of (s _ _ ha),cB.of (s _ _ hb),.inl n1.symm⟩) val fun zs H' s h1 h2=>fin acc zs H' s hacc h1 h2
 obtain⟨p,x,y,fp,rfl,rfl,h1,h2⟩:=y
 have q1:=h1 xs (cB.of (s _ _ ha))
 have q2:=h2 ys (cB.of (s _ _ hb))
 exact⟨aM fp _,fun R hR=>tgt i x y p _ q1 q2 (s.trans (aM fp _)) aC R hR⟩
theorem Oc {K:PySem.W.Frag} {nt:Nat} {g:TG} {js:List Nat} {a:Addr} {xs:List V} {es:List PyData} {tl te:TE} {σ:St} {H:Hp} {Q:VK} (τ:Nat->St) (hτ:∀i,(τ i).length=nt) (hl:∀R:VK,R (.ref a) H->tl σ H R) (ha:H a=some (.tup xs)) (n1:xs.length=es.length) (hz:es.length<=sizeLine) (hL:bN es=true)
  (tgt:∀(i:Nat) x H',xs[i]?=some x->aG H H'->∀R:St->Hp->Prop,R (τ i++b7 js σ) H'->g x (List.replicate nt none++b7 js σ) H' R)
  (val:∀(i:Nat) e H',es[i]?=some e->aG H H'->∀R:VK,(∀v cY,aG H' cY->At cY e v->R v cY)->te (τ i++b7 js σ) H' R)
  (fin:∀acc zs H',aG H H'->H acc=none->H' acc=some (.lst zs)->ak (hid acc H') es zs->Q (.ref acc) H'):eV nt js (xZ K tl) g pY te σ H Q:=by
 refine hl _ ⟨a,rfl,⟨xs,cB.of ha⟩,fun acc hacc=>?_⟩
 have ht:∀H',aG H H'->cB K H' a xs:=fun H' s=>cB.of (s _ _ ha)
 refine qt (es:=es) τ hτ hz hL hacc (fun i H' hi s=>⟨xs,xs[i]'(by omega),ht H' s,fD (by omega)⟩) (fun i H' v cY hi s y=>?_) (fun H' s=>⟨xs,ht H' s,by omega⟩) val fun zs H' s h1 h2=>fin acc zs H' s hacc h1 h2
 obtain⟨e,y⟩:=y
 subst e
 exact⟨aG.refl _,fun R hR=>tgt i v _ (y xs (ht _ s)) s R hR⟩
section
variable {X:Cx}
noncomputable def RQ (K:PySem.W.Frag) (te:TE) (tp:TO):TE:=fun σ H Q=>te σ H fun x H1=>tp σ H1 fun u H2=>u=some (-1)/\∃(a:Addr) (xs:List V),x=.ref a/\dh K H2 a xs/\∀p,H2 p=none->Q (.ref p) (upd H2 p (.lst xs.reverse))
theorem MJ {K:PySem.W.Frag} {e st:Expr} {te:TE} {tp:TO} {pos p2:Pos} (hK:X.K=K) (he:PE X e te) (hp:PO X (some st) tp) (hsub:∀v r,∃ops,subscripted (.Slice none none (some st) p2) false v r=operate ops (getItem v r):=by intro _ _; exact⟨_,by with_unfolding_all rfl⟩):PE X (.Subscript e (.Slice none none (some st) p2) pos) (RQ K te tp):=by
 subst hK
 refine .mk ?_
 intro pins s σ H Q I h
 refine Subscript_ (cT (he pins s σ H _ I h) fun v s1 qx=>?_)
 obtain⟨x,H1,I1,r1,q1⟩:=qx
 refine wpAny_Slice ?_
 rw[evalPart_none]
 refine bV (bV ?_)
 refine cT (hp pins s1 σ H1 _ I1 q1) fun vu s3 qx=>?_
 obtain⟨u,H3,I3,pu,q3⟩:=qx
 obtain⟨rfl,a,xs,rfl,hx,q⟩:=q3
 cases r1
 have I4:Inv X pins σ H3 { s3 with heap:=s3.heap.push { cls:=.type "slice",data:=.fields #[.none,.none,vu] } }:=I3.kept (t':=s3.toks) fun b ob q=>dY _ q
 obtain⟨its,r,ht,hz⟩:=I4.list hx
 have hlen:=r.length
 obtain⟨ops,ho⟩:=hsub (.ref a) (.ref s3.heap.objs.size)
 refine tail_any (ops:=ops) ht.isList.typeIs slot_list_getitem.lookup ?_ ho
 refine wpAny_getItem_list_slice ht.isList (Heap.IsSliceOf.new ..) .none .none pu (by simp) ?_ (by rw[gA] <;> omega)
 rw[PySem.W.krv_pick]
 refine⟨.ref _,_,I4.laid (t':=s3.toks) (o:=.lst xs.reverse) (fun b ob q=>dY _ q) (bI _) ?_,rfl,q _ (I4.hok.fresh (bI _))⟩
 exact⟨by rw[List.length_reverse]; exact n_ (by omega) hz,_,0,r.reverse,dJ _ rfl⟩
end
noncomputable def zX (h:Heap) (e:Addr) (cls:Value) (T:Addr):Prop:=∃oe vs,h.get? e=some oe/\(oe.cls=cls/\oe.dict=none)/\oe.data=.fields vs/\vs[1]?=some (.ref T)/\vs[2]?=some .none
noncomputable def Q8 (h:Heap) (T:Addr):Prop:=∃oT ts,h.get? T=some oT/\oT.data=.fields ts/\ts[3]?=some .none
structure Zh (fs:List Addr) (h h':Heap) (e T:Addr) (cls:Value):Prop where
 keep:∀b o,b≠e->b∉fs->h.get? b=some o->h'.get? b=some o
 slot:∀b o,b≠e->h.get? b=some o->∃sl,h'.get? b=some { o with slots:=sl }
 fresh:h.objs.size<=T
 ex:zX h' e cls T
 tb:Q8 h' T
section
variable {M:Model} {A:Around} {E:Value->Shared->Prop} {s:Shared}
theorem yq (o:Obj) (f:Array Value->Array Value):(Obj.mapFields f o).dict=o.dict:=by
 obtain⟨c,d,dt,sl⟩:=o
 cases dt <;> rfl
theorem entryE {base:Heap} {env:Env} {outer:List Env} {L e:Addr} {oe:Obj} {vs:Array Value} {head:Value} {nx:Bool} {Q:Unit->Shared->Prop}
  (fr:A.frames=some (env::outer)) (ff:s.heap.FunFrames base (env::outer)) (fL:env.frame=some L) (he:s.heap.get? e=some oe) (hdn:oe.dict=none) (hd:oe.data=.fields vs) (hz:1<vs.size) (hc:vs[2]?=some .none)
  (q:∀h' T,Zh (frs (env::outer)) s.heap h' e T oe.cls->Q () { s with heap:=h' }) :
  wpAny M A (do
   let a <- frameOf env
   let pl <- entryPlaceOf L nx
   let b <- EntryCells.newEntry head a .none (rawInt L) .none pl
   setField (.ref e) 1 b) (fun _ s'=>wpAny M A (setFlight (.ref e) none) Q E s') E s:=by
 have ne:e∉frs (env::outer):=fun hm=>by
  obtain⟨_,o,ho,hf⟩:=ff.mem hm
  rw[he] at ho
  cases ho
  exact hf vs hd
 refine aW (wpAny_frameOf_fun fr ff fL fun h1 so=>aW (wpAny_entryPlaceOf fun pl hpl=>?_))
 obtain⟨sz,sk,ss⟩:=so
 unfold EntryCells.newEntry newFields
 refine aW (uN ?_ (hpl.sizeOk5 _ _ _ _ _))
 have e1:h1.get? e=some oe:=(sk e ne).trans he
 have pe:=dY (h:=h1) { cls:=.type "traceback",data:=.fields (([head,.ref L,.none,rawInt L,.none]:List Value)++(if pl.isEmpty then List.replicate 6 .none else pl)).toArray } e1
 have nT:h1.objs.size≠e:=GD (cC e1)
 have pT:=dJ h1 (o:={ cls:=.type "traceback",data:=.fields (([head,.ref L,.none,rawInt L,.none]:List Value)++(if pl.isEmpty then List.replicate 6 .none else pl)).toArray }) rfl
 have pk:∀b o,h1.get? b=some o->(h1.push { cls:=.type "traceback",data:=.fields (([head,.ref L,.none,rawInt L,.none]:List Value)++(if pl.isEmpty then List.replicate 6 .none else pl)).toArray }).get? b=some o:=fun b o z=>dY _ z
 refine Ax pe hd hz ?_
 generalize h1.push { cls:=.type "traceback",data:=.fields (([head,.ref L,.none,rawInt L,.none]:List Value)++(if pl.isEmpty then List.replicate 6 .none else pl)).toArray }=h2 at pe pT pk ⊢
 have dx:=Obj.data_mapFields hd (·.setIfInBounds 1 (Value.ref h1.objs.size))
 have pe3:=zb (Obj.mapFields (·.setIfInBounds 1 (Value.ref h1.objs.size))) pe (Obj.isFreed_of_fields dx)
 have pT3:=(uO h2 (Obj.mapFields (·.setIfInBounds 1 (Value.ref h1.objs.size))) (Ne.symm nT)).trans pT
 have pk3:∀b o,b≠e->h1.get? b=some o->(h2.update e (Obj.mapFields (·.setIfInBounds 1 (Value.ref h1.objs.size)))).get? b=some o:=fun b o z y=>(uO h2 _ (Ne.symm z)).trans (pk b o y)
 have ce:=Obj.cls_mapFields oe (·.setIfInBounds 1 (Value.ref h1.objs.size))
 generalize h2.update e (Obj.mapFields (·.setIfInBounds 1 (Value.ref h1.objs.size)))=h3 at pe3 pT3 pk3 ⊢
 unfold setFlight
 have v1:(vs.setIfInBounds 1 (Value.ref h1.objs.size))[1]?=some (.ref h1.objs.size):=by simp[hz]
 refine aW (jE pe3 dx v1 ?_)
 rw[aP (show(Value.ref h1.objs.size != Value.none)=true by simp)]
 refine Ax pT3 rfl (by simp only[gA,gH,jF,GR] <;> omega) ?_
 have d4:=Obj.data_mapFields (o:={ cls:=.type "traceback",data:=.fields (([head,.ref L,.none,rawInt L,.none]:List Value)++(if pl.isEmpty then List.replicate 6 .none else pl)).toArray }) rfl (·.setIfInBounds 3 ((none:Option Addr).elim Value.none fun f=>rawInt f))
 have pT4:=zb (Obj.mapFields (·.setIfInBounds 3 ((none:Option Addr).elim Value.none fun f=>rawInt f))) pT3 (Obj.isFreed_of_fields d4)
 have o4:∀b,b≠h1.objs.size->(h3.update h1.objs.size (Obj.mapFields (·.setIfInBounds 3 ((none:Option Addr).elim Value.none fun f=>rawInt f)))).get? b=h3.get? b:=fun b z=>uO h3 _ (Ne.symm z)
 refine q _ h1.objs.size ⟨fun b o z y x=>?_,fun b o z x=>?_,Nat.le_of_eq sz.symm,⟨_,_,(o4 e (Ne.symm nT)).trans pe3,⟨ce,(yq oe _).trans hdn⟩,dx,v1,by rw[Array.getElem?_setIfInBounds]; simpa using hc⟩,⟨_,_,pT4,d4,?_⟩⟩
 ·have x1:h1.get? b=some o:=(sk b y).trans x
  exact(o4 b (gw (cC x1))).trans (pk3 b o z x1)
 ·obtain⟨sl,x1⟩:=ss b o x
  exact⟨sl,(o4 b (gw (cC x1))).trans (pk3 b _ z x1)⟩
 ·first | (simp; done) | (rcases hpl with rfl | ⟨_,_,_,_,_,_,_,rfl⟩ <;> simp)
theorem Xu {base:Heap} {env:Env} {outer:List Env} {L e:Addr} {oe:Obj} {vs:Array Value} {Q:Unit->Shared->Prop}
  (fr:A.frames=some (env::outer)) (ff:s.heap.FunFrames base (env::outer)) (fL:env.frame=some L) (he:s.heap.get? e=some oe) (hdn:oe.dict=none) (hd:oe.data=.fields vs) (h1:vs[1]?=some .none) (h2:vs[2]?=some .none)
  (q:∀h' T,Zh (frs (env::outer)) s.heap h' e T oe.cls->Q () { s with heap:=h' }):wpAny M A (leaving env (.ref e)) Q E s:=by
 unfold leaving noteFrame
 simp only[fL]
 refine aW (aW (jE he hd h1 ?_))
 rw[bB (by decide)]
 exact entryE fr ff fL he hdn hd (zg.mp h1).1 h2 q
structure abi (fs:List Addr) (h h':Heap) (e T0 T:Addr) (cls:Value):Prop where
 keep:∀b o,b≠e->b≠T0->b∉fs->h.get? b=some o->h'.get? b=some o
 slot:∀b o,b≠e->b≠T0->h.get? b=some o->∃sl,h'.get? b=some { o with slots:=sl }
 old:∃o,h'.get? T0=some o
 fresh:h.objs.size<=T
 ex:zX h' e cls T
 tb:Q8 h' T
theorem noteE2 {base:Heap} {env:Env} {outer:List Env} {L e T0:Addr} {cls:Value} {Q:Unit->Shared->Prop}
  (fr:A.frames=some (env::outer)) (ff:s.heap.FunFrames base (env::outer)) (fL:env.frame=some L) (he:zX s.heap e cls T0) (hT:Q8 s.heap T0) (nT:T0≠e)
  (q:∀h' T,abi (frs (env::outer)) s.heap h' e T0 T cls->Q () { s with heap:=h' }) :
  wpAny M A (noteFrame (.ref e) env) (fun _ s2=>wpAny M A (setFlight (.ref e) none) Q E s2) E s:=by
 obtain⟨oe,vs,e1,⟨ec,edn⟩,ed,ev,ev2⟩:=he
 obtain⟨oT,ts,t1,td,tv⟩:=hT
 subst ec
 unfold noteFrame
 simp only[fL]
 refine aW (jE e1 ed ev ?_)
 rw[aP (show(Value.ref T0 != Value.none)=true by simp)]
 refine aW (jE t1 td tv ?_)
 rw[bB (show ¬((Value.none==rawInt L)=true) by simp[rawInt])]
 have tz:=(zg.mp tv).1
 refine aW (Ax t1 td tz ?_)
 have dT:=Obj.data_mapFields td (·.setIfInBounds 3 Value.none)
 have g1:=zb (Obj.mapFields (·.setIfInBounds 3 Value.none)) t1 (Obj.isFreed_of_fields dT)
 have g2:∀b,b≠T0->(s.heap.update T0 (Obj.mapFields (·.setIfInBounds 3 Value.none))).get? b=s.heap.get? b:=fun b z=>uO _ _ (Ne.symm z)
 have gz:(s.heap.update T0 (Obj.mapFields (·.setIfInBounds 3 Value.none))).objs.size=s.heap.objs.size:=Heap.size_after_update ..
 have f2:(s.heap.update T0 (Obj.mapFields (·.setIfInBounds 3 Value.none))).FunFrames base (env::outer):=ff.of_keeps fun b o ho hf=>⟨o,(g2 b fun z=>by
  rw[z,t1] at ho
  cases ho
  exact hf ts td).trans ho,rfl⟩
 generalize s.heap.update T0 (Obj.mapFields (·.setIfInBounds 3 Value.none))=h2 at g1 g2 gz f2 ⊢
 refine entryE (s:={ s with heap:=h2 }) fr f2 fL ((g2 e (Ne.symm nT)).trans e1) edn ed (zg.mp ev).1 ev2 fun h' T l=>?_
 have nf:T0∉frs (env::outer):=fun hm=>by
  obtain⟨_,o,ho,hf⟩:=ff.mem hm
  rw[t1] at ho
  cases ho
  exact hf ts td
 exact q h' T ⟨fun b o z y x u=>l.keep b o z x ((g2 b y).trans u),fun b o z y u=>l.slot b o z ((g2 b y).trans u),⟨_,l.keep _ _ nT nf g1⟩,by rw[<- gz]; exact l.fresh,l.ex,l.tb⟩
end
section
variable {P:Program} {w:World} {H H':Hp} {h h':Heap} {a:Addr} {o:HO}
theorem cz.there (x:cz P w H h a o):∃u,h.get? a=some u:=by
 cases o with
 | lst xs=>obtain⟨_,_,_,_,e⟩:=x; exact⟨_,e⟩
 | tup xs=>obtain⟨_,_,_,ob,e,_⟩:=x; exact⟨_,e⟩
 | dK kvs=>obtain⟨_,_,_,_,o,_,_,e,_⟩:=x; exact⟨_,e⟩
 | dT kvs=>obtain⟨_,_,_,_,o,_,_,e,_⟩:=x; exact⟨_,e⟩
 | set S n=>obtain⟨o,_,_,_,e,_⟩:=x; exact⟨_,e⟩
 | ins C dx fs=>obtain⟨_,_,_,e,_⟩:=x; exact⟨_,e⟩
 | own y=>exact x
 | xd fs=>obtain⟨_,⟨_,_,_,e,_⟩,_⟩:=x; exact⟨_,e⟩
 | Wu lo hi=>obtain⟨_,_,_,e⟩:=x; exact⟨_,e⟩
 | Fl ob u=>obtain⟨e,_⟩:=x; exact⟨_,e⟩
 | Yp ps=>exact⟨_,(show h.get? a=some _ from x)⟩
 | met f y=>exact⟨_,(show h.get? a=some _ from x)⟩
 | ext φ=>obtain⟨_,e,_⟩:=x; exact e
theorem lZ.none (x:lZ P w H h) (e:h.get? a=none):H a=none:=by
 cases q:H a with
 | none=>rfl
 | some u=>
  obtain⟨v,z⟩:=(x a u q).there
  rw[e] at z; cases z
noncomputable def uZ (e:Addr) (cls:Value) (T:Addr):HO:=.ext fun h=>zX h e cls T
noncomputable def zU (T:Addr):HO:=.ext fun h=>Q8 h T
noncomputable def VN (T:Addr):HO:=.ext fun h=>∃o,h.get? T=some o
theorem T5 {e T:Addr} {cls:Value} (x:zX h e cls T):cz P w H h e (uZ e cls T):=by
 refine⟨x,?_,?_⟩
 ·obtain⟨oe,vs,e1,_⟩:=x; exact⟨_,e1⟩
 ·rintro h1 h2 ⟨oe,vs,e1,r⟩ k
  exact⟨oe,vs,k _ e1,r⟩
theorem M5 {T:Addr} (x:Q8 h T):cz P w H h T (zU T):=by
 refine⟨x,?_,?_⟩
 ·obtain⟨oe,vs,e1,_⟩:=x; exact⟨_,e1⟩
 ·rintro h1 h2 ⟨oe,vs,e1,r⟩ k
  exact⟨oe,vs,k _ e1,r⟩
theorem YW {T:Addr} (x:∃o,h.get? T=some o):cz P w H h T (VN T):=by
 refine⟨x,x,?_⟩
 rintro h1 h2 ⟨oe,e1⟩ k
 exact⟨oe,k _ e1⟩
theorem uZ.at {e T:Addr} {cls:Value} (x:cz P w H h e (uZ e cls T)):zX h e cls T:=x.1
theorem zU.at {T:Addr} (x:cz P w H h T (zU T)):Q8 h T:=x.1
theorem lZ.ext (x:lZ P w H h) (S:Addr->Prop) (k:∀b u v,H b=some u->¬S b->h.get? b=some v->h'.get? b=some v) (hs:∀b,S b->H b=Option.none\/∃φ,H b=some (.ext φ))
  (o1:∀b,¬S b->H' b=H b) (o2:∀b u,S b->H' b=some u->cz P w H' h' b u):lZ P w H' h':=fun b u e=>by
 by_cases z:S b
 ·exact o2 b u z e
 ·rw[o1 b z] at e
  refine(x b u e).stay (fun c v q y=>?_) (fun c q=>?_) (fun c xs q=>?_)
  ·rcases q with q | q
   ·subst q; exact k c u v e z y
   ·exact k c _ v q (fun y'=>(hs c y').elim (fun n=>by rw[n] at q; cases q) fun⟨φ,n⟩=>by rw[n] at q; cases q) y
  ·rw[o1 c fun y'=>(hs c y').elim (fun n=>by rw[n] at q; cases q) fun⟨φ,n⟩=>by rw[n] at q; cases q]; exact q
  ·rw[o1 c fun y'=>(hs c y').elim (fun n=>by rw[n] at q; cases q) fun⟨φ,n⟩=>by rw[n] at q; cases q]; exact q
end
noncomputable def nu (P:Program) (w:World):Ox:=fun outer H s E e s'=>∃(a T:Addr) (cls:Value) (H':Hp),e=.ref a/\s'.os=s.os/\AllBare s'.gens/\Un (frs outer) [] H H' s.heap s'.heap/\lZ P w H' s'.heap /\
 H' a=some (uZ a cls T)/\H' T=some (zU T)/\T≠a/\(s.heap.get? a=none/\s.heap.get? T=none)/\E cls none H'
section
variable {P:Program} {w:World} {K:PySem.W.Frag} {mg:Str->Option Value} {base:Heap} {N:List Str} {qual:Str} {scope:Scope} {f:Addr} {cd:Value} {A:Around} {outer:List Env} {s0:Shared} {H0:Hp} {E:XK}
theorem Jt {pins:List (Addr×Obj)} {σ:St} {H:Hp} {s:Shared} {h2:Heap} {e C:Addr} {us:List Value} (I:Inv (ig (nu P w) P w K mg base N qual scope f cd A outer s0 H0 E) pins σ H s)
  (m:Heap.MadeExcOf s.heap h2 e (.ref C) us) (QG:lZ P w H0 s0.heap) (q:∀H',aG H H'->E (.ref C) none H'):(ig (nu P w) P w K mg base N qual scope f cd A outer s0 H0 E).xe (.ref e) { s with heap:=h2 }:=by
 obtain⟨t,he,_,_⟩:=m.there
 have ff:h2.FunFrames base (envOfC qual scope s0.heap.objs.size f cd::outer):=(I.stack:s.heap.FunFrames base (envOfC qual scope s0.heap.objs.size f cd::outer)).of_keeps fun b o ho _=>⟨o,m.keeps b o ho,rfl⟩
 have fr:(A.deeper (envOfC qual scope s0.heap.objs.size f cd)).frames=some (envOfC qual scope s0.heap.objs.size f cd::outer):=I.ok.frames
 refine Xu (s:={ s with heap:=h2 }) fr ff rfl he rfl rfl rfl rfl fun h3 T l=>?_
 have ne:H e=none:=I.hok.none m.new
 have nT:H T=none:=I.hok.none (by
  cases z:s.heap.get? T with
  | none=>rfl
  | some o=>exact absurd (cC (m.keeps _ _ z)) (Nat.not_lt.mpr l.fresh))
 have Te:T≠e:=fun z=>by
  obtain⟨oe,vs,e1,e2,e3,e4⟩:=l.ex
  obtain⟨oT,ts,t1,t2,t3⟩:=l.tb
  have:=cC he
  have:=l.fresh
  have:e<h2.objs.size:=cC he
  subst z
  exact absurd this (Nat.not_lt.mpr l.fresh)
 have iL:∀b o,s0.heap.get? b=some o->b≠s0.heap.objs.size:=fun b o z=>gw (cC z)
 have ib:Un (frs outer) [] H0 H s0.heap s.heap:=I.base
 have u1:∀b,b≠T->b≠e->upd (upd H e (uZ e (.ref C) T)) T (zU T) b=H b:=fun b y z=>by rw[aR y,aR z]
 have nb:∀b o,s.heap.get? b=some o->b≠e:=fun b o z y=>by rw[y,m.new] at z; cases z
 have nbT:∀b o,s.heap.get? b=some o->b≠T:=fun b o z y=>by
  have a1:=cC (m.keeps b o z)
  have a2:h2.objs.size<=T:=l.fresh
  subst y
  exact Nat.not_lt.mpr a2 a1
 have nf:∀b,b∉frs outer->b≠s0.heap.objs.size->b∉frs (envOfC qual scope s0.heap.objs.size f cd::outer):=fun b y z hm=>by
  rcases bU.mp (show b∈s0.heap.objs.size::frs outer from hm) with x | x
  ·exact z x
  ·exact y x
 have hu:∀b u,H b=some u->b≠e/\b≠T:=fun b u z=>⟨fun y=>(by rw[y,ne] at z; cases z),fun y=>(by rw[y,nT] at z; cases z)⟩
 refine⟨e,T,.ref C,upd (upd H e (uZ e (.ref C) T)) T (zU T),rfl,I.os,I.bare,⟨fun b o z n y _=>?_,fun b o z n y x=>?_,fun b o z n x=>?_,fun b o z x=>?_,fun b xs z=>?_,fun b o u z=>?_,fun b ps z=>?_⟩,?_,?_,aC,Te,⟨?_,?_⟩,?_⟩
 ·have g:=ib.keep b o z n y (by simp)
  exact l.keep b o (nb b o g) (nf b y (iL b o z)) (m.keeps b o g)
 ·obtain⟨sl,g⟩:=ib.slot b o z n y x
  obtain⟨sl2,g2⟩:=l.slot b _ (nb b _ g) (m.keeps b _ g)
  exact⟨sl2,g2⟩
 ·obtain⟨o',g⟩:=ib.there b o z x
  rw[u1 b (nbT b _ g) (nb b _ g)]
  exact ib.free b o z n x
 ·obtain⟨o',g⟩:=ib.there b o z x
  obtain⟨sl2,g2⟩:=l.slot b _ (nb b _ g) (m.keeps b _ g)
  exact⟨_,g2⟩
 ·have g:=ib.tups b xs z
  rw[u1 b (hu b _ g).2 (hu b _ g).1]; exact g
 ·have g:=ib.yf b o u z
  rw[u1 b (hu b _ g).2 (hu b _ g).1]; exact g
 ·obtain⟨more,g⟩:=ib.yR b ps z
  exact⟨more,by rw[u1 b (hu b _ g).2 (hu b _ g).1]; exact g⟩
 ·refine(show lZ P w H s.heap from I.hok).ext (fun b=>b=e\/b=T) (fun b u v z y x=>?_) (fun b z=>?_) (fun b z=>?_) (fun b u z y=>?_)
  ·have g:=(I.hok b u z).there
   refine l.keep b v (fun q=>y (.inl q)) (fun hm=>?_) (m.keeps b v x)
   have:=I.u_ b hm
   rw[z] at this; cases this
  ·rcases z with rfl | rfl
   ·exact .inl ne
   ·exact .inl nT
  ·exact u1 b (fun q=>z (.inr q)) fun q=>z (.inl q)
  ·rcases z with rfl | rfl
   ·rw[aR (Ne.symm Te),aC] at y
    cases y
    exact T5 l.ex
   ·rw[aC] at y
    cases y
    exact M5 l.tb
 ·rw[aR (Ne.symm Te),aC]
 ·cases z:s0.heap.get? e with
  | none=>rfl
  | some o=>
   obtain⟨o',g⟩:=ib.there e o z (by simp)
   rw[m.new] at g; cases g
 ·cases z:s0.heap.get? T with
  | none=>rfl
  | some o=>
   obtain⟨o',g⟩:=ib.there T o z (by simp)
   exact absurd rfl (nbT T o' g)
 ·exact q _ ((aM ne _).trans (aM (by rw[aR Te]; exact nT) _))
end
def Zy:List Value:=[.type "ValueError",.type "Exception",.type "BaseException",.type "object"]
structure ExC (K:PySem.W.Frag) (mg:Str->Option Value) (x:Str) (C:Addr):Prop where
 bound:mg x=some (.ref C)
 ok:PySem.W.excIn K C Zy "ValueError.__new__" = true
theorem ExC.obj {K:PySem.W.Frag} {C:Addr} {h:Heap} (X:K.In h) (q:PySem.W.excIn K C Zy "ValueError.__new__" = true) :
  ∃bm N nm qn bs hdct sn sub ab col dd k0 k1 k2 k3 k5 mN,h.get? C=some (excClassObj nm qn C N bs bm hdct sn sub ab col dd k0 k1 k2 k3 k5 "ValueError.__new__")/\h.Ns N mN/\mN "__init__" = none/\OwnTail h Zy bm:=by
 unfold PySem.W.excIn at q
 split at q
 ·rename_i dd cd sl ho
  split at q
  ·rename_i C' bm k0 k1 k2 k3 n k5 hm hs
   simp only[wM,beq_iff_eq,Bool.not_eq_true'] at q
   obtain⟨⟨⟨⟨⟨rfl,rfl⟩,a1⟩,a2⟩,a3⟩,a4⟩:=q
   cases cd with
   | mk nm bs mro ns qn hd sn sub ab col del=>
    dsimp only at hm a1 a3 a4
    subst hm a1
    obtain⟨l⟩:=sl
    have e:l=[k0,k1,k2,k3,some (.builtin "ValueError.__new__"),k5]:=hs
    subst e
    exact⟨bm,ns,nm,qn,bs,hd,sn,sub,ab,col,dd,k0,k1,k2,k3,k5,_,X _ _ ho,.of_isNs (PySem.W.isNs_of_in X a3),PySem.W.nsMap_none_of_in X a3 a4,PySem.W.tail_of_in X a2⟩
  ·cases q
 ·cases q
noncomputable def RZ (E:XK) (C:Addr) (ta:TA):TS:=fun _ σ H=>ta σ H fun vs H1=>vs.length<=sizeLine/\∀H',aG H1 H'->E (.ref C) none H'
section
variable {P:Program} {w:World} {K:PySem.W.Frag} {mg:Str->Option Value} {base:Heap} {N:List Str} {qual:Str} {scope:Scope} {f:Addr} {cd:Value} {A:Around} {outer:List Env} {s0:Shared} {H0:Hp} {E:XK}
theorem Hg {x:Str} {C:Addr} {e0:Expr} {np cpos pos:Pos} {ta:TA} (c:ExC K mg x C) (QG:lZ P w H0 s0.heap) (ha:PA (ig (nu P w) P w K mg base N qual scope f cd A outer s0 H0 E) [e0] ta) (hg:Gl (ig (nu P w) P w K mg base N qual scope f cd A outer s0 H0 E) x:=by rfl)
  (hd:(x==("__debug__" : Str))=false:=by decide)
  (he:starEach [e0] (ig (nu P w) P w K mg base N qual scope f cd A outer s0 H0 E).env=[(false,eval e0 (ig (nu P w) P w K mg base N qual scope f cd A outer s0 H0 E).env)]:=by rfl) :
  PS (ig (nu P w) P w K mg base N qual scope f cd A outer s0 H0 E) (.Raise (some (.Call (.Name x np) [e0] [] cpos)) none pos) (RZ E C ta):=by
 refine .mk ?_
 intro pins s σ H D I h
 obtain⟨bm,N1,nm,qn,bs,hdct,sn,sub,ab,col,dd,k0,k1,k2,k3,k5,mN,hC,hN,hni,T⟩:=ExC.obj (show K.In base from I.mod.Xz) c.ok
 have bk:∀{s:Shared} {H:Hp} {σ:St},Inv (ig (nu P w) P w K mg base N qual scope f cd A outer s0 H0 E) pins σ H s->∀b o,base.get? b=some o->s.heap.get? b=some o:=fun I=>I.bk
 refine wpAny_Raise_call_subU (C:=C) (nm:=nm) (q:=qn) (N:=N1) (bs:=bs) (bm:=bm) (hdct:=hdct) (sn:=sn) (sub:=sub) (ab:=ab) (col:=col) (dd:=dd) (k0:=k0) (k1:=k1) (k2:=k2) (k3:=k3) (k5:=k5) (newId:="ValueError.__new__")
  PySem.F.excBase_ValueError (by decide) PySem.F.excBase_ValueError (mN:=mN) (T.hasType PySem.F.excBase_ValueError.hasBase) (I.ok.hd rfl) (by rw[he]; rfl) hni (rK I hg c.bound ⟨rfl,?_⟩ hd)
 have g:=ha cpos pins s σ H _ I h
 rw[he] at g ⊢
 refine Calls.evalArgs_plain (g_ g (fun us s2 z=>?_) fun _ _ y=>y)
 obtain⟨vs,H2,I2,rv,l2,q2⟩:=z
 refine⟨rfl,by rw[<- rv.length]; exact l2,bk I2 _ _ hC,hN.keeps (bk I2),T.keeps (bk I2),fun h' e m=>Jt I2 m QG q2⟩
end
section
variable {X:Cx} {pins:List (Addr×Obj)} {σ:St} {H:Hp} {s:Shared}
theorem XN {i:Nat} {x:Str} {m:Str->Option Value} {v:Option Value} {h':Heap} {t':Nat} (I:Inv X pins σ H s) (hN:X.N.Nodup) (hi:X.N[i]?=some x) (hs:Heap.SameBut X.env.locals s.heap h') (hn:s.heap.Ns X.env.locals m) (hn':h'.Ns X.env.locals fun y=>if y=x then v else m y)
  (hl:∀(j:Nat) (y:Str) (w:V),X.N[j]?=some y->σ[j]?=some (some w)->Vis X.env.scope y->∃u,RelV w u/\Look X.env s.heap m y u):Inv X pins (σ.set i none) H { s with heap:=h',toks:=t' }:=by
 have iz:i<σ.length:=by rw[I.len]; exact(fj.mp hi).1
 obtain⟨oL,_,_,hoL,_⟩:=id hn
 have far:∀b o,X.s₀.heap.get? b=some o->h'.get? b=s.heap.get? b:=fun b o e=>hs.2 b (gw (jU (cC e) I.ok.above))
 refine⟨I.ok,I.os,I.bare,⟨fun b o e n hb hx=>(far b o e).trans (I.base.keep b o e n hb hx),fun b o e n hb hx=>?_,I.base.free,fun b o e hx=>?_,I.base.tups,I.base.yf,I.base.yR⟩,⟨_,hn',fun j y w e1 e2 e3=>?_⟩,fun y c e=>?_,I.free,I.j6,fun p hp=>?_,fun b ob e=>?_,by simpa using I.len⟩
 ·obtain⟨sl,e1⟩:=I.base.slot b o e n hb hx
  exact⟨sl,(far b o e).trans e1⟩
 ·obtain⟨o',e1⟩:=I.base.there b o e hx
  exact⟨o',(far b o e).trans e1⟩
 ·by_cases hj:j=i
  ·subst hj
   rw[Mv iz] at e2
   cases e2
  ·rw[List.getElem?_set_ne (Ne.symm hj)] at e2
   obtain⟨u,r,q⟩:=hl j y w e1 e2 e3
   refine⟨u,r,?_⟩
   rcases q with⟨k,e⟩ | ⟨k,c,e,z⟩
   ·refine .inl ⟨k,?_⟩
    have:y≠x:=fun e=>hj (xH hN e1 (e▸hi))
    simp[this,e]
   ·exact .inr ⟨k,c,e,z.sameBut hs (I.XS y c e)⟩
 ·obtain⟨w',z⟩:=I.cell y c e
  exact⟨w',z.sameBut hs (I.XS y c e)⟩
 ·obtain⟨e,n,ne,nf,d⟩:=I.pin p hp
  exact⟨(hs.2 p.1 ne).trans e,n,ne,nf,d⟩
 ·refine(I.hok b ob e).stay (fun c w' hc q=>(hs.2 c ?_).trans q) (fun _ q=>q) fun _ _ q=>q
  rintro rfl
  rcases hc with rfl | hc
  ·rw[I.free] at e; cases e
  ·rw[I.free] at hc; cases hc
theorem name_goes {M:Model} {A:Around} {E:Value->Shared->Prop} {i:Nat} {x:Str} {pos:Pos} {Q:Unit->Shared->Prop} (I:Inv X pins σ H s) (hN:X.N.Nodup) (hi:X.N[i]?=some x) (hx:X.env.scope.names.lookup x=some .local)
  (q:∀s',Inv X pins (σ.set i none) H s'->Q () s'):wpAny M A (do bindName X.env x .none; unbindBehindTheSuite X.env x pos) Q E s:=by
 have hcls:(X.env.scope.kind==.class || (X.env.scope.kind==.module&&X.env.locals != X.env.globals))=false:=by rw[I.ok.kind]; rfl
 refine aW (wpAny_bindName (jd I hN hi (.inl hx) (v:=.non) (u:=.none) rfl (fun s1 I1=>?_) (.inr hx)))
 unfold unbindBehindTheSuite
 refine GP ?_
 unfold unbindName
 refine aW (wpAny_point (aW ?_))
 unfold deleteName
 have kl:X.env.kindOf x=some .local:=hx
 simp only[kl,hcls]
 rw[bB (by decide)]
 obtain⟨m,hn,hl⟩:=id I1.loc
 refine aW (wpAny_nsDel_keeps hn fun h2 v hn2 hs2=>?_)
 have iz:i<σ.length:=by rw[I.len]; exact(fj.mp hi).1
 obtain⟨u,_,lk⟩:=hl i x .non hi (by rw[Mv iz]) (.inl hx)
 have ms:(m x).isSome=true:=by
  rcases lk with⟨_,e⟩ | ⟨k,_⟩
  ·rw[e]; rfl
  ·rw[kl] at k; rcases k with k | k <;> cases k
 rw[ms]
 simp only[if_true,wL,jw,if_false]
 refine bV (wpAny_point ?_)
 have J:=XN (t':=s1.toks) I1 hN hi hs2 hn hn2 hl
 rw[List.set_set] at J
 exact q _ J
end
section
variable {X:Cx} {pins:List (Addr×Obj)} {σ:St} {H:Hp} {s:Shared}
noncomputable abbrev Cx.in' (X:Cx) (e:Value):Cx:={ X with A:=X.A.mark (some e),calm:=false }
theorem Inv.inE (I:Inv X pins σ H s) (e:Value):Inv (X.in' e) pins σ H s:=
 ⟨⟨I.ok.mod,I.ok.kind,I.ok.glob,I.ok.blt,I.ok.above,I.ok.inj,I.ok.has,I.ok.cab,(fun z=>nomatch z),I.ok.frames,I.ok.stk,I.ok.exf,I.ok.bs,I.ok.Rq,I.ok.Hr,I.ok.Kr,I.ok.uU,I.ok.frf⟩,I.os,I.bare,I.base,I.loc,I.cell,I.free,I.j6,I.pin,I.hok,I.len⟩
theorem Inv.aeR {e:Value} (I:Inv (X.in' e) pins σ H s) (ok:X.Ok):Inv X pins σ H s:=⟨ok,I.os,I.bare,I.base,I.loc,I.cell,I.free,I.j6,I.pin,I.hok,I.len⟩
theorem Inv.ext {H':Hp} {h':Heap} (I:Inv X pins σ H s) (S:Addr->Prop) (keep:∀b o,¬S b->b∉frs X.stack->s.heap.get? b=some o->h'.get? b=some o) (slot:∀b o,¬S b->s.heap.get? b=some o->∃sl,h'.get? b=some { o with slots:=sl })
  (there:∀b o,S b->s.heap.get? b=some o->∃o',h'.get? b=some o') (hs:∀b,S b->(H b=none/\s.heap.get? b=none)\/∃φ,H b=some (.ext φ))
  (o1:∀b,¬S b->H' b=H b) (o2:∀b u,S b->H' b=some u->cz X.prog X.w H' h' b u):Inv X pins σ H' { s with heap:=h' }:=by
 have un:∀b o,s.heap.get? b=some o->H b=none->¬S b:=fun b o e n z=>by
  rcases hs b z with⟨_,q⟩ | ⟨φ,q⟩
  ·rw[e] at q; cases q
  ·rw[n] at q; cases q
 have tr:∀b u,H b=some u->(∀φ,u≠.ext φ)->H' b=some u:=fun b u e n=>by
  rw[o1 b fun z=>(hs b z).elim (fun q=>by rw[q.1] at e; cases e) fun⟨φ,q⟩=>by rw[q] at e; cases e; exact n φ rfl]
  exact e
 refine I.call (ch:=[]) (g':=s.gens) (t':=s.toks) (d':=s.drawn) ⟨fun b o e n hb _=>keep b o (un b o e n) hb e,fun b o e n hb _=>slot b o (un b o e n) e,fun b o e n _=>(by rw[o1 b (un b o e n)]; exact n),fun b o e _=>?_,fun b xs e=>tr b _ e (fun φ z=>by cases z),fun b o u e=>tr b _ e (fun φ z=>by cases z),fun b ps e=>⟨#[],(by rw[tr b _ e (fun φ z=>by cases z)]; simp)⟩⟩ ?_ I.bare fun b z=>nomatch z
 ·by_cases z:S b
  ·exact there b o z e
  ·obtain⟨sl,q⟩:=slot b o z e; exact⟨_,q⟩
 ·refine I.hok.ext S (fun b u v e z q=>?_) (fun b z=>(hs b z).elim (fun q=>.inl q.1) .inr) o1 o2
  refine keep b v z (fun hm=>?_) q
  have:=I.u_ b hm
  rw[e] at this; cases this
theorem QH {M:Model} {A:Around} {E:Value->Shared->Prop} {a T:Addr} {cls:Value} {Q:Unit->Shared->Prop} (I:Inv X pins σ H s) (ha:H a=some (uZ a cls T)) (hT:H T=some (zU T)) (q:∀s',Inv X pins σ H s'->Q () s') :
  wpAny M A (setFlight (.ref a) none) Q E s:=by
 obtain⟨oe,vs,e1,ec,ed,ev,_⟩:=uZ.at (I.hok a _ ha)
 obtain⟨oT,ts,t1,td,tv⟩:=zU.at (I.hok T _ hT)
 unfold setFlight
 refine aW (jE e1 ed ev ?_)
 rw[aP (show(Value.ref T != Value.none)=true by simp)]
 have tz:=(zg.mp tv).1
 refine Ax t1 td tz ?_
 have dT:=Obj.data_mapFields td (·.setIfInBounds 3 ((none:Option Addr).elim Value.none fun f=>rawInt f))
 have g1:=zb (Obj.mapFields (·.setIfInBounds 3 ((none:Option Addr).elim Value.none fun f=>rawInt f))) t1 (Obj.isFreed_of_fields dT)
 have g2:∀b,b≠T->(s.heap.update T (Obj.mapFields (·.setIfInBounds 3 ((none:Option Addr).elim Value.none fun f=>rawInt f)))).get? b=s.heap.get? b:=fun b z=>uO _ _ (Ne.symm z)
 refine q _ (I.ext (fun b=>b=T) (fun b o z _ e=>(g2 b z).trans e) (fun b o z e=>⟨o.slots,(g2 b z).trans e⟩) (fun b o z e=>by subst z; exact⟨_,g1⟩) (fun b z=>.inr (by subst z; exact⟨_,hT⟩)) (fun _ _=>rfl) fun b u z e=>?_)
 subst z
 rw[hT] at e
 cases e
 exact M5 ⟨_,_,g1,dT,by simp[tz]⟩
end
noncomputable def Rg (H:Hp) (a:Addr) (cls:Value):Prop:=∃T,H a=some (uZ a cls T)
section
variable {X:Cx} {pins:List (Addr×Obj)} {σ:St} {H1:Hp} {s1 s':Shared}
theorem Vj {e:Value} {E:XK} {D:Ends} {hx n:Str} {CH:Addr} {hp pos:Pos} {b0:Stmt} {body:List Stmt} {ie:Nat} {ts:TS} (I:Inv X pins σ H1 s1) (c:nu X.prog X.w X.stack H1 s1 E e s')
  (hE:∀cls H2,E cls none H2->PySem.W.exmOne X.K cls (.ref CH)=some true/\∀a H3,(aG H1 H2->aG H1 H3)->Rg H3 a cls->ts { nx:=fun σ' H'=>D.nx (σ'.set ie none) H',rt:=fun _ _=>False } (σ.set ie (some (.ref a))) H3)
  (hN:X.N.Nodup) (hi:X.N[ie]?=some n) (hl:X.env.scope.names.lookup n=some .local) (hg:Gl X hx) (hm:X.mg hx=some (.ref CH)) (hs:∀e,zV (X.in' e) (b0::body) ts) (hn:∀e s,X.xe e s->False) (st:X.stack=X.env::X.outer) (fL:X.env.frame=some X.env.locals) (hd:(hx==("__debug__" : Str))=false) :
  wpAny (model X.prog X.w) X.A (noteFrame e X.env) (fun _ s2=>wpAny (model X.prog X.w) X.A (setFlight e none) (fun _ s3=>wpAny (model X.prog X.w) X.A (handleBy e X.env [.ExceptHandler (some (.Name hx hp)) (some n) (b0::body) pos]) (SP X pins D) X.xe s3) X.xe s2) X.xe s':=by
 obtain⟨a,T0,cls,H2,rfl,os,bare,un,hok,ha,hT0,n0,⟨na',aaG⟩,q⟩:=c
 have na:H1 a=none:=I.hok.none na'
 have nT0:H1 T0=none:=I.hok.none aaG
 obtain⟨ex,q⟩:=hE cls H2 q
 have I2:Inv X pins σ H2 s':=I.call' (ch:=[]) os un hok bare fun b z=>nomatch z
 have ff:s'.heap.FunFrames X.base (X.env::X.outer):=by rw[<- st]; exact I2.stack
 have fr:X.A.frames=some (X.env::X.outer):=by rw[<- st]; exact I2.ok.frames
 refine noteE2 fr ff fL (uZ.at (hok a _ ha)) (zU.at (hok T0 _ hT0)) n0 fun h3 T nt=>?_
 have fT:s'.heap.get? T=none:=by
  cases z:s'.heap.get? T with
  | none=>rfl
  | some o=>exact absurd (cC z) (Nat.not_lt.mpr nt.fresh)
 have nT:H2 T=none:=hok.none fT
 have Ta:T≠a:=fun z=>by rw[z,ha] at nT; cases nT
 have TT:T≠T0:=fun z=>by rw[z,hT0] at nT; cases nT
 have I3:Inv X pins σ (upd (upd (upd H2 T0 (VN T0)) a (uZ a cls T)) T (zU T)) { s' with heap:=h3 }:=by
  refine I2.ext (fun b=>b=a\/b=T0\/b=T) (fun b o z y x=>nt.keep b o (fun w=>z (.inl w)) (fun w=>z (.inr (.inl w))) (by rw[<- st]; exact y) x) (fun b o z x=>nt.slot b o (fun w=>z (.inl w)) (fun w=>z (.inr (.inl w))) x) (fun b o z x=>?_) (fun b z=>?_) (fun b z=>?_) (fun b u z y=>?_)
  ·rcases z with rfl | rfl | rfl
   ·obtain⟨oe,vs,e1,_⟩:=nt.ex; exact⟨_,e1⟩
   ·exact nt.old
   ·rw[fT] at x; cases x
  ·rcases z with rfl | rfl | rfl
   ·exact .inr ⟨_,ha⟩
   ·exact .inr ⟨_,hT0⟩
   ·exact .inl ⟨nT,fT⟩
  ·rw[aR fun w=>z (.inr (.inr w)),aR fun w=>z (.inl w),aR fun w=>z (.inr (.inl w))]
  ·rcases z with rfl | rfl | rfl
   ·rw[aR (Ne.symm Ta),aC] at y; cases y; exact T5 nt.ex
   ·rw[aR (Ne.symm TT),aR n0,aC] at y; cases y; exact YW nt.old
   ·rw[aC] at y; cases y; exact M5 nt.tb
 have hx3:upd (upd (upd H2 T0 (VN T0)) a (uZ a cls T)) T (zU T) a=some (uZ a cls T):=by rw[aR (Ne.symm Ta),aC]
 have hT3:upd (upd (upd H2 T0 (VN T0)) a (uZ a cls T)) T (zU T) T=some (zU T):=aC
 have sm:aG H1 H2->aG H1 (upd (upd (upd H2 T0 (VN T0)) a (uZ a cls T)) T (zU T)):=fun y b o z=>by
  have g:=y b o z
  rw[aR (fun w=>by rw[w,nT] at g; cases g),aR (fun w=>by rw[w,na] at z; cases z),aR (fun w=>by rw[w,nT0] at z; cases z)]
  exact g
 have q3:=q a _ sm ⟨T,hx3⟩
 generalize upd (upd (upd H2 T0 (VN T0)) a (uZ a cls T)) T (zU T)=H3 at I3 hx3 hT3 q3
 generalize ({ s' with heap:=h3 }:Shared)=s3 at I3
 refine wpAny_handleBy_cons (codeAny_handlers_test ?_) (by intro z; cases z)
 refine Calls.Name_function_global I3.ok.kind hg (Calls.loadGlobal_global (by rw[I3.ok.glob]; exact I3.mod.glob.keeps I3.bk) hm ?_) hd
 obtain⟨oe,vs,e1,⟨ec,_⟩,ed,ev⟩:=uZ.at (I3.hok a _ hx3)
 have LT:PySem.W.Looks (model X.prog X.w) s3.heap (typeOf (.ref a)) cls:=ec▸(PySem.W.Looks.ld e1).andThen .now
 refine(PySem.W.exm_one I3.oE LT ex).here ?_
 refine codeAny_handlers_suite_as (QH I3 hx3 hT3 fun s4 I4=>?_)
 refine jd I4 hN hi (.inl hl) (v:=.ref a) rfl (fun s5 I5=>?_) (.inr hl)
 refine g_ (hs (.ref a) pins s5 _ _ _ (I5.inE (.ref a)) q3) (fun fl s6 z=>?_) fun e6 s6 z=>(hn _ _ z).elim
 cases fl with
 | next=>
  obtain⟨σ6,H6,I6,q6⟩:=z
  exact name_goes (I6.aeR I5.ok) hN hi hl fun s7 I7=>⟨_,H6,I7,q6⟩
 | ret u=>
  obtain⟨v,σ6,H6,I6,rv,q6⟩:=z
  exact q6.elim
 | brk=>
  obtain⟨_,_,_,q6⟩:=z
  exact False.elim q6
 | cont=>
  obtain⟨_,_,_,q6⟩:=z
  exact False.elim q6
end
section
variable {P:Program} {w:World} {K:PySem.W.Frag} {mg:Str->Option Value} {base:Heap}
theorem U6 {CX:Ox} {k:Nat} {f:Addr} {name qual:Str} {params:Arguments} {body:List Stmt} {scope:Scope} {dV kV doc pm cdv ct oc:Value} {an od:Option Addr}
  {osl:Array (Option Value)} {N ps:List Str} {sp:Sp} (lk:K.lookup f=some ⟨oc,od,.func (PySem.W.fnOf name qual params body scope dV kV doc pm an cdv ct),osl⟩) (hcd:PySem.W.codeIn K cdv qual=true) (S:bf N ps scope)
  (len:∀vs H Q E,sp vs H Q E->vs.length=ps.length)
  (hbody:∀(A:Around) (outer:List Env) (s:Shared) (H:Hp) (vs:List V) (Q:VK) (E:XK),lZ P w H s.heap->jb k (A.deeper (envOfC qual scope s.heap.objs.size f cdv))->sp vs H Q E ->
   ∃t,zV (ig CX P w K mg base N qual scope f cdv A outer s H E) body t/\t { nx:=fun _ H'=>Q .non H',rt:=Q } (start N vs) H) :
  bZ P w K mg base CX (k+1) f (PySem.W.fnOf name qual params body scope dV kV doc pm an cdv ct) ps sp:=by
 refine⟨len,fun A outer s H args us vs Q E hr e0 hb r hsp=>?_⟩
 have hl:=len _ _ _ _ hsp
 have KX:K.In s.heap:=e0.mod.Xz.keeps fun b o e=>(e0.bs b o e).1
 have lim:s.heap.NoLimit:=e0.mod.nolimit.keeps fun b o e=>(e0.bs b o e).1
 have hkind:∀y∈ps.zip us,scope.names.lookup y.1=some .local\/(scope.names.lookup y.1=some .cell/\((cellsFrom (s.heap.objs.size+1) scope.names []).lookup y.1).isSome=true):=fun⟨n,v⟩ hy=>by
  rcases S.par n (List.of_mem_zip hy).1 with q | q
  ·exact .inl q
  ·exact .inr ⟨q,PySem.W.cellsFrom_some _ _ _ (.inl q)⟩
 refine codeAny_call_function hr.depth (KX _ _ lk) rfl S.co S.gen rfl (PySem.W.codeRec_of KX hcd) (hb _ _ _ _ ?_)
 refine wpAny_newFunctionEnv_cells S.kind hkind fun env he s1 x=>?_
 subst he
 refine⟨lim.keeps x.toInCall.keep,codeAny_func ?_⟩
 obtain⟨t,ht,hq⟩:=hbody A outer s H vs Q E e0.hok (hr.deeper _) hsp
 have I:Inv (ig CX P w K mg base N qual scope f cdv A outer s H E) [] (start N vs) H s1:=Bq S hr.hd e0 hl r x
 refine g_ (ht [] s1 (start N vs) H _ I hq) (fun fl s' hs=>?_) fun e s' hs=>hs
 have fin:∀{σ':St} {H':Hp} {v:V} {u:Value},Inv (ig CX P w K mg base N qual scope f cdv A outer s H E) [] σ' H' s'->RelV v u->Q v H'->CE outer P w H s Q u s':=
  fun {σ' H' v u} J rv q=>⟨v,H',J.os,J.bare,J.base,J.hok,rv,q⟩
 cases fl with
 | ret u=>
  obtain⟨v,σ',H',J,rv,q⟩:=hs
  exact fin J rv q
 | next=>
  obtain⟨σ',H',J,q⟩:=hs
  exact fin (v:=V.non) (u:=Value.none) J rfl q
 | brk=>
  obtain⟨_,_,_,q⟩:=hs
  exact False.elim q
 | cont=>
  obtain⟨_,_,_,q⟩:=hs
  exact False.elim q
theorem jr.okE {x qual:Str} {st:Stmt} {f:Addr} {fd:FuncData} {N ps:List Str} {k:Nat} {sp:Sp} (F:jr K x qual st f fd) (S:bf N ps (aK st)) (len:∀vs H Q E,sp vs H Q E->vs.length=ps.length)
  (hbody:∀(cdv:Value) (A:Around) (outer:List Env) (s:Shared) (H:Hp) (vs:List V) (Q:VK) (E:XK),lZ P w H s.heap->jb k (A.deeper (envOfC qual (aK st) s.heap.objs.size f cdv))->sp vs H Q E ->
   ∃t,zV (ig (nu P w) P w K mg base N qual (aK st) f cdv A outer s H E) (dI st) t/\t { nx:=fun _ H'=>Q .non H',rt:=Q } (start N vs) H):bZ P w K mg base (nu P w) (k+1) f fd ps sp:=by
 obtain⟨oc,od,kV,doc,pm,an,cdv,ct,osl,rfl,lk,hcd⟩:=F.ex
 exact U6 lk hcd S len fun A outer s H vs Q E QG hr hsp=>hbody cdv A outer s H vs Q E QG hr hsp
structure Vz (P:Program) (w:World) (K:PySem.W.Frag) (mg:Str->Option Value) (base:Heap) (k:Nat) (x:Str) (ps:List Str) (sp:Sp) where
 f:Addr
 fd:FuncData
 G:bZ P w K mg base (nu P w) k f fd ps sp
 kp:PySem.W.keepIn K (.ref f)=true
 b:Binds K fd ps []
 m:mg x=some (.ref f)
noncomputable def Vz.mono {j k:Nat} {x:Str} {ps:List Str} {sp:Sp} (c:Vz P w K mg base j x ps sp) (h:j<=k):Vz P w K mg base k x ps sp:={ c with G:=c.G.mono h }
end
section
variable {prog:Program} {w:World} {A:Around} {E:Value->Shared->Prop} {s:Shared} {K:PySem.W.Frag} {x D:Addr} {ox:Obj} {od:Option Obj}
structure VL (K:PySem.W.Frag) (D:Addr):Prop where
 ga:PySem.W.findIn K (.ref D) "__getattribute__" = some (some (.builtin "BaseException.__getattribute__"))
 gt:PySem.W.findIn K (.ref D) "__getattr__" = some none
 fo:PySem.W.findObj K D none "__class__" = some (.bind (.builtin "getset_descriptor.__get__") (.builtin "object.__class__"))
 sb:PySem.W.subIn K (.ref D) (.type "BaseException")=some true
 ob:PySem.W.mroIn K D (.type "object")=some true
theorem VL.of (ga:PySem.W.findIn K (.ref D) "__getattribute__" = some (some (.builtin "BaseException.__getattribute__"))) (gt:PySem.W.findIn K (.ref D) "__getattr__" = some none) (fi:PySem.W.findIn K (.ref D) "__class__" = some (some (.builtin "object.__class__")))
  (sp:PySem.W.specialIn K (.builtin "object.__class__") "__get__" = some (some (.builtin "getset_descriptor.__get__"))) (tk:PySem.W.takesIn K (.builtin "object.__class__")=some true) (hd:PySem.W.hasDictIn K D=true)
  (sb:PySem.W.subIn K (.ref D) (.type "BaseException")=some true) (ob:PySem.W.mroIn K D (.type "object")=some true):VL K D/\(PySem.W.clsIn K D).isSome=true:=by
 obtain⟨cd,hc,_⟩:=PySem.W.any_some hd
 refine⟨⟨ga,gt,?_,sb,ob⟩,by rw[hc]; rfl⟩
 unfold PySem.W.findObj
 rw[hc,Option.bind_some,fi,Option.bind_some]
 simp[sp,tk]
theorem QK {Q:Option Value->Shared->Prop} (X:K.In s.heap) (I:PySem.W.InstAt s.heap x ox D none) (F:VL K D) (q:Q (some (.ref D)) { s with toks:=s.toks+1 }):wpAny (model prog w) A (getAttr? (.ref x) "__class__") Q E s:=by
 obtain⟨hh,g,d,t,os⟩:=s
 have L0:=I.type (M:=model prog w)
 have L1:=PySem.W.looks_findIn (M:=model prog w) X F.ga
 have L2:=PySem.W.looks_findIn (M:=model prog w) X F.gt
 have L3:=PySem.W.looks_find (M:=model prog w) X I F.fo
 have L4:=PySem.W.looks_subIn (M:=model prog w) X F.sb
 unfold getAttr? getAttrBy? getAttrBy
 refine aW (wpAny_mkText (aW (wpAny_attempt (pK (aW (L0.at (aW (L1.at ?_))))))))
 have e2:(Value.builtin "BaseException.__getattribute__" == Value.builtin "object.__getattribute__")=false:=by decide +kernel
 have e3:(onTheHeap (Value.ref D)&&Value.builtin "BaseException.__getattribute__" == Value.builtin "object.__getattribute__")=false:=by rw[e2]; rfl
 dsimp only
 rw[e3,bB (by decide)]
 unfold getAttrByItsOwn hookBefore
 refine aW ?_
 rw[aP (by rfl)]
 refine L2.at ?_
 have f3:=PySem.F.excAttr_ValueError.ga.bind (.ref x)
 have e0:(false&&onTheHeap (Value.builtin "BaseException.__getattribute__"))=false:=rfl
 unfold callGetattribute boundAndCalled
 simp only[e0]
 rw[bB (by decide)]
 refine aW (wpAny_attempt (pK (aW (tL f3 ?_))))
 refine wpAny_call (codeAny_call_builtin PySem.F.excAttr_ValueError.ga.plain PySem.F.entry_bexc_ga ?_)
 show wpAny _ _ (checkBuiltinCall "BaseException.__getattribute__" ⟨[.ref x,.str "__class__" t],[]⟩) _ _ _
 have hk:builtinKind "BaseException.__getattribute__" = some .slot:=by decide +kernel
 have hsp:splitId "BaseException.__getattribute__" = some ("BaseException","__getattribute__"):=by decide +kernel
 have hag:=PySem.F.args_bexc_ga (.ref x) (.str "__class__" t)
 simp only[checkBuiltinCall,hk,hsp]
 refine aW ?_
 unfold isInstance
 refine aW (L0.at (L4.at ?_))
 repeat (any_goals (first | assumption | wp_step))
 refine wpAny_loadPart_at I.at_ (bV ?_)
 rw[I.cls]
 refine aW (L3.at ?_)
 dsimp only
 show wpAny _ _ (holding [Value.builtin "object.__class__"] (call (.builtin "getset_descriptor.__get__") [.builtin "object.__class__",.ref x,.ref D]) >>= ret) _ _ _
 refine aW (pK (wpAny_call (PySem.W.class_get X I F.ob ?_)))
 refine bV ?_
 refine PySem.W.handed_on rfl ?_
 exact bV q
theorem zX.inst {h:Heap} {T:Addr} (y:zX h x (.ref D) T):∃ox,PySem.W.InstAt h x ox D none:=by
 obtain⟨oe,vs,e1,⟨ec,dn⟩,ed,_⟩:=y
 refine⟨oe,e1,ec,?_,?_⟩
 ·obtain⟨c,dd,dt,sl⟩:=oe
  cases ed
  rfl
 ·obtain⟨c,dd,dt,sl⟩:=oe
  cases dn
  trivial
theorem HD (F:VL K D) (hc:(PySem.W.clsIn K D).isSome=true):PySem.W.KitX K (.ref x) (.ref D) (fun h=>∃ox,PySem.W.InstAt h x ox D none) where
 ty:=fun _ _ _ ⟨_,I⟩=>I.type
 it:=fun _ _ X _=>by
  obtain⟨cdD,hcD⟩:=zf.mp hc
  unfold PySem.W.clsIn at hcD
  split at hcD
  ·rename_i c' d' cd' sl' ho
   intro A' Q' E' s' k q
   unfold isType loadHead
   exact aW (wpAny_loadPart (k _ _ (X _ _ ho)) (bV q))
  ·cases hcD
 ne:=fun h tp dd its n sl X htp=>by
  obtain⟨cdD,hcD⟩:=zf.mp hc
  refine Bool.eq_false_iff.mpr fun q=>?_
  have e:D=tp:=Value.ref.inj (beq_iff_eq.mp q)
  subst e
  unfold PySem.W.clsIn at hcD
  split at hcD
  ·rename_i c' d' cd' sl' ho
   have z:=(X _ _ ho).symm.trans htp
   cases z
  ·cases hcD
 ca:=fun X ⟨_,I⟩ k=>QK X I F k
end
theorem Mf:∀{cs:List Addr} {its:List Value},Vals (cs.map V.ref) its->its=cs.map Value.ref
 | [],_,.nil=>rfl
 | c::cs,_,.cons r1 r2=>by
  rw[Mf r2,show _=Value.ref c from r1]
  rfl
section
variable {X:Cx}
theorem DX {K:PySem.W.Frag} (hK:X.K=K):cV X (.builtin "isinstance") (fun vs H Q=>∃(a D:Addr) (c:V) (cv:Value) (b:Bool),vs=[.ref a,c]/\Rg H a (.ref D)/\VL K D/\(PySem.W.clsIn K D).isSome=true/\RelV c cv/\(∀u,RelV c u->u=cv)/\PySem.W.kitOne K (.ref D) cv=some b/\Q (.bl b) H):=by
 subst hK
 refine .mk ?_
 intro pins s σ H vs us Q I r h
 obtain⟨a,D,c,cv,b,rfl,⟨T,ha⟩,F,hc,rc,un,e,q⟩:=h
 obtain⟨u,t,rfl,ru,rt⟩:=r.two
 cases(show u=Value.ref a from ru)
 obtain rfl:=un t rt
 exact PySem.W.kia_one (HD F hc) I.oE (zX.inst (uZ.at (I.hok a _ ha))) e (fun z=>nomatch z) fun tk=>⟨.bl b,H,I.tok tk,rfl,q⟩
theorem Uw {K:PySem.W.Frag} (hK:X.K=K):cV X (.builtin "isinstance") (fun vs H Q=>∃(a D p:Addr) (cs:List Addr) (b:Bool),vs=[.ref a,.ref p]/\Rg H a (.ref D)/\VL K D/\(PySem.W.clsIn K D).isSome=true/\H p=some (.tup (cs.map V.ref))/\PySem.W.kitAny K (.ref D) (cs.map Value.ref)=some b/\Q (.bl b) H):=by
 subst hK
 refine .mk ?_
 intro pins s σ H vs us Q I r h
 obtain⟨a,D,p,cs,b,rfl,⟨T,ha⟩,F,hc,hp,e,q⟩:=h
 obtain⟨u,t,rfl,ru,rt⟩:=r.two
 cases(show u=Value.ref a from ru)
 cases(show t=Value.ref p from rt)
 obtain⟨_,its,ri,ht⟩:=(show cz X.prog X.w H s.heap p (.tup (cs.map V.ref)) from I.hok p _ hp)
 have ei:its=cs.map Value.ref:=Mf ri
 subst ei
 obtain⟨o,ho,hcl,n,hd⟩:=ht
 obtain⟨cls,dd,data,sl⟩:=o
 cases hcl
 cases hd
 exact PySem.W.kia_tup (HD F hc) I.oE (zX.inst (uZ.at (I.hok a _ ha))) ho e (fun z=>nomatch z) fun tk=>⟨.bl b,H,I.tok tk,rfl,q⟩
end
section
variable {P:Program} {w:World} {K:PySem.W.Frag} {mg:Str->Option Value} {base:Heap} {N:List Str} {qual:Str} {scope:Scope} {f:Addr} {cd:Value} {A:Around} {outer:List Env} {s0:Shared} {H0:Hp} {E:XK}
theorem Qa {pins:List (Addr×Obj)} {σ:St} {H1:Hp} {s1 s':Shared} {e:Value} {E':XK} (I:Inv (ig (nu P w) P w K mg base N qual scope f cd A outer s0 H0 E) pins σ H1 s1) (c:nu P w (envOfC qual scope s0.heap.objs.size f cd::outer) H1 s1 E' e s')
  (hE:∀cls H2,E' cls none H2->∀H3,(aG H1 H2->aG H1 H3)->E cls none H3):(ig (nu P w) P w K mg base N qual scope f cd A outer s0 H0 E).xe e s':=by
 obtain⟨a,T0,cls,H2,rfl,os,bare,un,hok,ha,hT0,n0,⟨na',aaG⟩,q⟩:=c
 have na:H1 a=none:=I.hok.none na'
 have nT0:H1 T0=none:=I.hok.none aaG
 have q:=hE cls H2 q
 have I2:Inv (ig (nu P w) P w K mg base N qual scope f cd A outer s0 H0 E) pins σ H2 s':=I.call' (ch:=[]) os un hok bare fun b z=>nomatch z
 have ff:s'.heap.FunFrames base (envOfC qual scope s0.heap.objs.size f cd::outer):=I2.stack
 have fr:(A.deeper (envOfC qual scope s0.heap.objs.size f cd)).frames=some (envOfC qual scope s0.heap.objs.size f cd::outer):=I2.ok.frames
 show wpAny _ _ (leaving (envOfC qual scope s0.heap.objs.size f cd) (.ref a)) _ _ _
 unfold leaving
 refine aW ?_
 refine noteE2 fr ff rfl (uZ.at (hok a _ ha)) (zU.at (hok T0 _ hT0)) n0 fun h3 T nt=>?_
 have fT:s'.heap.get? T=none:=by
  cases z:s'.heap.get? T with
  | none=>rfl
  | some o=>exact absurd (cC z) (Nat.not_lt.mpr nt.fresh)
 have nT:H2 T=none:=hok.none fT
 have Ta:T≠a:=fun z=>by rw[z,ha] at nT; cases nT
 have TT:T≠T0:=fun z=>by rw[z,hT0] at nT; cases nT
 have I3:Inv (ig (nu P w) P w K mg base N qual scope f cd A outer s0 H0 E) pins σ (upd (upd (upd H2 T0 (VN T0)) a (uZ a cls T)) T (zU T)) { s' with heap:=h3 }:=by
  refine I2.ext (fun b=>b=a\/b=T0\/b=T) (fun b o z y x=>nt.keep b o (fun w=>z (.inl w)) (fun w=>z (.inr (.inl w))) y x) (fun b o z x=>nt.slot b o (fun w=>z (.inl w)) (fun w=>z (.inr (.inl w))) x) (fun b o z x=>?_) (fun b z=>?_) (fun b z=>?_) (fun b u z y=>?_)
  ·rcases z with rfl | rfl | rfl
   ·obtain⟨oe,vs,e1,_⟩:=nt.ex; exact⟨_,e1⟩
   ·exact nt.old
   ·rw[fT] at x; cases x
  ·rcases z with rfl | rfl | rfl
   ·exact .inr ⟨_,ha⟩
   ·exact .inr ⟨_,hT0⟩
   ·exact .inl ⟨nT,fT⟩
  ·rw[aR fun w=>z (.inr (.inr w)),aR fun w=>z (.inl w),aR fun w=>z (.inr (.inl w))]
  ·rcases z with rfl | rfl | rfl
   ·rw[aR (Ne.symm Ta),aC] at y; cases y; exact T5 nt.ex
   ·rw[aR (Ne.symm TT),aR n0,aC] at y; cases y; exact YW nt.old
   ·rw[aC] at y; cases y; exact M5 nt.tb
 have hx3:upd (upd (upd H2 T0 (VN T0)) a (uZ a cls T)) T (zU T) a=some (uZ a cls T):=by rw[aR (Ne.symm Ta),aC]
 have hT3:upd (upd (upd H2 T0 (VN T0)) a (uZ a cls T)) T (zU T) T=some (zU T):=aC
 have sm:aG H1 H2->aG H1 (upd (upd (upd H2 T0 (VN T0)) a (uZ a cls T)) T (zU T)):=fun y b o z=>by
  have g:=y b o z
  rw[aR (fun w=>by rw[w,nT] at g; cases g),aR (fun w=>by rw[w,na] at z; cases z),aR (fun w=>by rw[w,nT0] at z; cases z)]
  exact g
 refine⟨a,T,cls,_,rfl,I3.os,I3.bare,I3.base,I3.hok,hx3,hT3,Ta,⟨?_,?_⟩,q _ sm⟩
 ·cases z:s0.heap.get? a with
  | none=>rfl
  | some o=>
   obtain⟨o',g⟩:=(show Un (frs outer) [] H0 H1 s0.heap s1.heap from I.base).there a o z (by simp)
   rw[na'] at g; cases g
 ·cases z:s0.heap.get? T with
  | none=>rfl
  | some o=>
   obtain⟨o',g⟩:=(show Un (frs outer) [] H0 H2 s0.heap s'.heap from I2.base).there T o z (by simp)
   rw[fT] at g; cases g
noncomputable def R4 (sp:Sp) (Ro:List V) (E:XK) (t:TA):TE:=fun σ H Q=>t σ H fun vs H1=>sp (vs++Ro) H1 Q (fun cls _ H2=>∀H3,(aG H1 H2->aG H1 H3)->E cls none H3)
theorem Ws {pins:List (Addr×Obj)} {σ:St} {H:Hp} {s:Shared} {Q:VK} {us:List Value} {vs:List V} {k:Nat} {x:Str} {ps:List Str} {sp:Sp} (c:Vz P w K mg base k x ps sp) (hr:jb k (A.deeper (envOfC qual scope s0.heap.objs.size f cd))) (I:Inv (ig (nu P w) P w K mg base N qual scope f cd A outer s0 H0 E) pins σ H s) (r:Vals vs us)
  (q:sp vs H Q (fun cls _ H2=>∀H3,(aG H H2->aG H H3)->E cls none H3)):wpAny (model P w) (A.deeper (envOfC qual scope s0.heap.objs.size f cd)) (call (.ref c.f) us) (EP (ig (nu P w) P w K mg base N qual scope f cd A outer s0 H0 E) pins σ Q) (ig (nu P w) P w K mg base N qual scope f cd A outer s0 H0 E).xe s:=by
 have hl2:us.length=ps.length:=by rw[<- r.length]; exact c.G.len _ _ _ _ q
 have hb:=c.b s us I.oE (by rw[lJ]; exact hl2)
 rw[lJ] at hb
 refine wpAny_call (codeAny_mono (c.G.run _ _ s H ⟨us,[]⟩ us vs _ _ hr I.env0 hb r q) fun r s' z=>?_)
 cases r with
 | error e'=>
  have z':nu P w (envOfC qual scope s0.heap.objs.size f cd::outer) H s (fun cls _ H2=>∀H3,(aG H H2->aG H H3)->E cls none H3) e' s':=z
  exact Qa I z' fun cls H2 y=>y
 | ok fl=>
  cases fl with
  | ret u=>
   obtain⟨v,H2,I2,rv2,q2⟩:=I.after z
   exact⟨v,H2,I2,rv2,q2⟩
  | next=>exact False.elim z
  | brk=>exact False.elim z
  | cont=>exact False.elim z
theorem pfe {k:Nat} {x:Str} {p pos:Pos} {e:Expr} {es:List Expr} {ps:List Str} {sp:Sp} {t:TA} (c:Vz P w K mg base k x ps sp) (hr:jb k (A.deeper (envOfC qual scope s0.heap.objs.size f cd))) (ha:PA (ig (nu P w) P w K mg base N qual scope f cd A outer s0 H0 E) (e::es) t)
  (hg:Gl (ig (nu P w) P w K mg base N qual scope f cd A outer s0 H0 E) x:=by rfl) (hdb:(x==("__debug__" : Str))=false:=by decide) (h1:cD e=true:=by rfl) (h2:es.all cD=true:=by rfl) :
  PE (ig (nu P w) P w K mg base N qual scope f cd A outer s0 H0 E) (.Call (.Name x p) (e::es) [] pos) (R4 sp [] E t):=by
 refine .mk ?_
 intro pins s σ H Q I h
 refine rn (rK I hg c.m ?_ hdb)
 refine PySem.W.callWith_K (h₀:=base) I.ok.mod.Xz c.kp (cT (ha pos pins s σ H _ I h) fun us s1 qx=>?_) (cQ h1) (cJ h2)
 obtain ⟨vs,H1,I1,r,q⟩:=qx
 refine ⟨I1.oE,?_⟩
 rw[lJ] at q
 exact Ws c hr I1 r q
end
noncomputable abbrev jR (K:PySem.W.Frag) (x:Str) (st:Stmt) (f:Addr):Prop:=∃(oc:Value) (od an:Option Addr) (sl:Array (Option Value)) (kV dc pm cd ct:Value),PySem.W.nsIn K mainGlobals x=some (some (.ref f))/\K.lookup f=some ⟨oc,od,.func (PySem.W.fnOf x x (fM st) (dI st) (aK st) .none kV dc pm an cd ct),sl⟩/\PySem.W.codeIn K cd x=true/\PySem.W.keepIn K (.ref f)=true
noncomputable abbrev Yg (K:PySem.W.Frag) (x:Str) (st:Stmt) (f:Addr) (T:Addr) (i:Int):Prop:=∃(oc oT:Value) (od an dT:Option Addr) (sl sT:Array (Option Value)) (kV dc pm cd ct:Value) (t:Tok) (nT:Nat),PySem.W.nsIn K mainGlobals x=some (some (.ref f))/\K.lookup f=some ⟨oc,od,.func (PySem.W.fnOf x x (fM st) (dI st) (aK st) (.ref T) kV dc pm an cd ct),sl⟩/\PySem.W.codeIn K cd x=true/\PySem.W.keepIn K (.ref f)=true/\K.lookup T=some ⟨oT,dT,.seq #[.int i t] nT,sT⟩
structure Has (K:PySem.W.Frag) (mg:Str->Option Value) (x:Str) (st:Stmt) (ps:List Str) where
 f:Addr
 fd:FuncData
 F:jr K x x st f fd
 b:Binds K fd ps []
 m:mg x=some (.ref f)
structure Vy (K:PySem.W.Frag) (mg:Str->Option Value) (x:Str) (st:Stmt) (ps:List Str) (i:Int) where
 f:Addr
 fd:FuncData
 T:Addr
 t:Tok
 F:uX K x x st f fd T i t
 b:Binds K fd ps []
 bd:Binds K fd ps [.int i t]
 m:mg x=some (.ref f)
section
variable {K:PySem.W.Frag} {h:Heap} {mg:Str->Option Value}
theorem jR.mk {x:Str} {st:Stmt} {f:Addr} {oc:Value} {od an:Option Addr} {sl:Array (Option Value)} {kV dc pm cd ct:Value} (a:PySem.W.nsIn K mainGlobals x=some (some (.ref f))) (l:K.lookup f=some ⟨oc,od,.func (PySem.W.fnOf x x (fM st) (dI st) (aK st) .none kV dc pm an cd ct),sl⟩) (c:PySem.W.codeIn K cd x=true) (k:PySem.W.keepIn K (.ref f)=true):jR K x st f:=⟨oc,od,an,sl,kV,dc,pm,cd,ct,a,l,c,k⟩
theorem Yg.mk {x:Str} {st:Stmt} {f T:Addr} {i:Int} {oc oT:Value} {od an dT:Option Addr} {sl sT:Array (Option Value)} {kV dc pm cd ct:Value} {t:Tok} {nT:Nat} (a:PySem.W.nsIn K mainGlobals x=some (some (.ref f))) (l:K.lookup f=some ⟨oc,od,.func (PySem.W.fnOf x x (fM st) (dI st) (aK st) (.ref T) kV dc pm an cd ct),sl⟩) (c:PySem.W.codeIn K cd x=true) (k:PySem.W.keepIn K (.ref f)=true) (e:K.lookup T=some ⟨oT,dT,.seq #[.int i t] nT,sT⟩):Yg K x st f T i:=⟨oc,oT,od,an,dT,sl,sT,kV,dc,pm,cd,ct,t,nT,a,l,c,k,e⟩
theorem jR.has {x:Str} {st:Stmt} {f:Addr} (e:jR K x st f) (X:K.In h) (G:h.Ns mainGlobals mg) {ps:List Str} (H:∀(kV doc pm:Value) (an:Option Addr) (cdv ct:Value) (us:List Value),us.length=ps.length->bindArgs (PySem.W.fnOf x x (fM st) (dI st) (aK st) .none kV doc pm an cdv ct) ⟨us,[]⟩=pure (ps.zip us)):Nonempty (Has K mg x st ps):=by
 obtain⟨oc,od,an,sl,kV,dc,pm,cd,ct,a,l,c,k⟩:=e
 have F:=U4 (st:=st) l c k
 exact⟨⟨_,_,F,F.binds H,PySem.W.mg_of X G a⟩⟩
theorem Yg.has {x:Str} {st:Stmt} {f T:Addr} {i:Int} (e:Yg K x st f T i) (X:K.In h) (G:h.Ns mainGlobals mg) {ps:List Str}
  (H:∀(t:Tok) (kV doc pm:Value) (an:Option Addr) (cdv ct:Value) (us:List Value),(us++[]).length=ps.length->∃k,bindArgs (PySem.W.fnOf x x (fM st) (dI st) (aK st) (.ref T) kV doc pm an cdv ct) ⟨us,[]⟩=seqItems? (.ref T) >>= k/\k (some #[.int i t])=pure (ps.zip (us++[])))
  (H':∀(t:Tok) (kV doc pm:Value) (an:Option Addr) (cdv ct:Value) (us:List Value),(us++[Value.int i t]).length=ps.length->∃k,bindArgs (PySem.W.fnOf x x (fM st) (dI st) (aK st) (.ref T) kV doc pm an cdv ct) ⟨us,[]⟩=seqItems? (.ref T) >>= k/\k (some #[.int i t])=pure (ps.zip (us++[.int i t]))):Nonempty (Vy K mg x st ps i):=by
 obtain⟨oc,oT,od,an,dT,sl,sT,kV,dc,pm,cd,ct,t,nT,a,l,c,k,e⟩:=e
 have F:uX K x x st f _ T i t:=⟨⟨_,_,_,_,_,_,_,_,_,rfl,l,c⟩,k,⟨_,_,e,rfl⟩⟩
 exact⟨⟨_,_,_,_,F,F.binds (H t),F.binds (H' t),PySem.W.mg_of X G a⟩⟩
noncomputable def Has.ct {x:Str} {st:Stmt} {ps:List Str} {k:Nat} {sp:Sp} (h:Has K mg x st ps) (P:Program) (w:World) (base:Heap) (G:bZ P w K mg base jj k h.f h.fd ps sp):Ct P w K mg base k x ps sp:=⟨h.f,h.fd,G,h.F.kp,h.b,h.m⟩
noncomputable def Has.ctE {x:Str} {st:Stmt} {ps:List Str} {k:Nat} {sp:Sp} (h:Has K mg x st ps) (P:Program) (w:World) (base:Heap) (G:bZ P w K mg base (nu P w) k h.f h.fd ps sp):Vz P w K mg base k x ps sp:=⟨h.f,h.fd,G,h.F.kp,h.b,h.m⟩
noncomputable def Vy.ct {x:Str} {st:Stmt} {ps:List Str} {i:Int} {k:Nat} {sp:Sp} (h:Vy K mg x st ps i) (P:Program) (w:World) (base:Heap) (G:bZ P w K mg base jj k h.f h.fd ps sp):CtD P w K mg base k x ps i sp:=⟨h.f,h.fd,h.t,G,h.F.kp,h.b,h.bd,h.m⟩
noncomputable abbrev Nb (K:PySem.W.Frag) (x:Str):Prop:=PySem.W.nsIn K mainGlobals x=some none
noncomputable abbrev Ni (K:PySem.W.Frag) (x:Str) (i:Int):Prop:=∃t,PySem.W.nsIn K mainGlobals x=some (some (.int i t))
noncomputable abbrev zW (K:PySem.W.Frag) (x s:Str):Prop:=∃t,PySem.W.nsIn K mainGlobals x=some (some (.str s t))
theorem Ni.mk {x:Str} {i:Int} {t:Tok} (a:PySem.W.nsIn K mainGlobals x=some (some (.int i t))):Ni K x i:=⟨t,a⟩
theorem zW.mk {x s:Str} {t:Tok} (a:PySem.W.nsIn K mainGlobals x=some (some (.str s t))):zW K x s:=⟨t,a⟩
theorem Ni.gi {x:Str} {i:Int} (e:Ni K x i) (X:K.In h) (G:h.Ns mainGlobals mg):Gi mg x i:=let ⟨t,z⟩:=e; ⟨t,PySem.W.mg_of X G z⟩
theorem zW.gs {x s:Str} (e:zW K x s) (X:K.In h) (G:h.Ns mainGlobals mg):Gs mg x s:=let ⟨t,z⟩:=e; ⟨t,PySem.W.mg_of X G z⟩
noncomputable abbrev NT (K:PySem.W.Frag) (x:Str) (vs:List Value):Prop:=∃(a:Addr) (n:Nat) (sl:Array (Option Value)),PySem.W.nsIn K mainGlobals x=some (some (.ref a))/\K.lookup a=some ⟨.type "tuple",none,.seq vs.toArray n,sl⟩
theorem NT.mk {x:Str} {vs:List Value} {a:Addr} {n:Nat} {sl:Array (Option Value)} (b:PySem.W.nsIn K mainGlobals x=some (some (.ref a))) (l:K.lookup a=some ⟨.type "tuple",none,.seq vs.toArray n,sl⟩):NT K x vs:=⟨a,n,sl,b,l⟩
end
noncomputable abbrev TX:=St->Hp->VK->(Value->Hp->Hp->Prop)->Prop
noncomputable abbrev Q_:=Ends->(Value->St->Hp->Hp->Prop)->St->Hp->Prop
noncomputable def XL (X:Cx) (pins:List (Addr×Obj)) (σ:St) (EE:Value->Hp->Hp->Prop):Value->Shared->Prop:=fun e s'=>∃H1 s1 E',Inv X pins σ H1 s1/\nu X.prog X.w X.stack H1 s1 E' e s'/\∀cls H2,E' cls none H2->EE cls H1 H2
noncomputable def XLs (X:Cx) (pins:List (Addr×Obj)) (EE:Value->St->Hp->Hp->Prop):Value->Shared->Prop:=fun e s'=>∃σ1 H1 s1 E',Inv X pins σ1 H1 s1/\nu X.prog X.w X.stack H1 s1 E' e s'/\∀cls H2,E' cls none H2->EE cls σ1 H1 H2
structure PX (X:Cx) (e:Expr) (t:TX):Prop where
 mk ::
 go:∀(pins:List (Addr×Obj)) (s:Shared) (σ:St) (H:Hp) (Q:VK) (EE:Value->Hp->Hp->Prop),Inv X pins σ H s->t σ H Q EE->wpAny (model X.prog X.w) X.A (eval e X.env) (EP X pins σ Q) (XL X pins σ EE) s
structure PSX (X:Cx) (st:Stmt) (t:Q_):Prop where
 mk ::
 go:∀(pins:List (Addr×Obj)) (s:Shared) (σ:St) (H:Hp) (D:Ends) (EE:Value->St->Hp->Hp->Prop),Inv X pins σ H s->t D EE σ H->wpAny (model X.prog X.w) X.A (exec st X.env) (SP X pins D) (XLs X pins EE) s
structure Yb (X:Cx) (st:List Stmt) (t:Q_):Prop where
 mk ::
 go:∀(pins:List (Addr×Obj)) (s:Shared) (σ:St) (H:Hp) (D:Ends) (EE:Value->St->Hp->Hp->Prop),Inv X pins σ H s->t D EE σ H->wpAny (model X.prog X.w) X.A (execs st X.env) (SP X pins D) (XLs X pins EE) s
noncomputable def xPe (te:TE):TX:=fun σ H Q _=>te σ H Q
noncomputable def Yn (sp:Sp) (Ro:List V) (ta:TA):TX:=fun σ H Q EE=>ta σ H fun vs H1=>sp (vs++Ro) H1 Q (fun cls _ H2=>EE cls H1 H2)
noncomputable def xIf (tc:TT) (a b:TX):TX:=fun σ H Q EE=>tc σ H fun d H1=>if d=true then a σ H1 Q EE else b σ H1 Q EE
noncomputable def ab9 (i:Nat) (t:TX):Q_:=fun D EE σ H=>t σ H (fun v H'=>D.nx (σ.set i (some v)) H') (fun cls H1 H2=>EE cls σ H1 H2)
noncomputable def aca (t:TX):Q_:=fun D EE σ H=>t σ H (fun _ H'=>D.nx σ H') (fun cls H1 H2=>EE cls σ H1 H2)
noncomputable def ab_ (tc:TT) (a b:Q_):Q_:=fun D EE σ H=>tc σ H fun d H1=>if d=true then a D EE σ H1 else b D EE σ H1
noncomputable def xPs (t:TS):Q_:=fun D _ σ H=>t D σ H
noncomputable def aet (a b:Q_):Q_:=fun D EE σ H=>a { D with nx:=fun σ' H'=>b D EE σ' H' } EE σ H
section
variable {X:Cx}
theorem Mw {k:Nat} {x:Str} {p pos:Pos} {e:Expr} {es:List Expr} {ps:List Str} {sp:Sp} {t:TA} (c:Vz X.prog X.w X.K X.mg X.base k x ps sp) (hr:jb k X.A) (ha:PA X (e::es) t)
  (hn:∀e s,X.xe e s->False:=by exact fun _ _ z=>z) (hg:Gl X x:=by rfl) (hdb:(x==("__debug__" : Str))=false:=by decide) (h1:cD e=true:=by rfl) (h2:es.all cD=true:=by rfl) :
  PX X (.Call (.Name x p) (e::es) [] pos) (Yn sp [] t):=by
 refine .mk ?_
 intro pins s σ H Q EE I h
 refine rn (rK I hg c.m ?_ hdb)
 refine PySem.W.callWith_K (h₀:=X.base) I.ok.mod.Xz c.kp (g_ (ha pos pins s σ H _ I h) (fun us s1 qx=>?_) fun _ _ z=>(hn _ _ z).elim) (cQ h1) (cJ h2)
 obtain ⟨vs,H1,I1,r,q⟩:=qx
 refine ⟨I1.oE,?_⟩
 rw[lJ] at q
 have hl2:us.length=ps.length:=by rw[<- r.length]; exact c.G.len _ _ _ _ q
 have hb:=c.b s1 us I1.oE (by rw[lJ]; exact hl2)
 rw[lJ] at hb
 refine wpAny_call (codeAny_mono (c.G.run _ _ s1 H1 ⟨us,[]⟩ us vs _ _ hr I1.env0 hb r q) fun r s' z=>?_)
 cases r with
 | error e'=>exact⟨H1,s1,fun cls _ H2=>EE cls H1 H2,I1,z,fun cls H2 y=>y⟩
 | ok fl=>
  cases fl with
  | ret u=>
   obtain⟨v,H2,I2,rv2,q2⟩:=I1.after z
   exact⟨v,H2,I2,rv2,q2⟩
  | next=>exact False.elim z
  | brk=>exact False.elim z
  | cont=>exact False.elim z
theorem Mx {i:Nat} {x:Str} {e:Expr} {te:TX} {pos pos':Pos} (hN:X.N.Nodup) (he:PX X e te) (hi:X.N[i]?=some x:=by rfl) (hx:Loc X.env.scope x:=by first | exact Or.inl rfl | exact Or.inr rfl) (hs:swapsWith e (some (.Name x pos')) pos.line X.env=pure false:=by rfl) (hf:X.fn x=true\/X.env.scope.names.lookup x=some .local:=by first | exact .inl rfl | exact .inr rfl) (hn:∀e s,X.xe e s->False:=by exact fun _ _ z=>z) :
  PSX X (.Assign [.Name x pos'] e pos) (ab9 i te):=by
 refine .mk ?_
 intro pins s σ H D EE I h
 refine wpAny_Assign_Name (g_ (he.go pins s σ H _ _ I h) (fun v s1 ⟨y,H1,I1,r1,q1⟩=>?_) fun e s z=>?_) hs
 ·exact jd I1 hN hi hx r1 (fun s2 I2=>⟨_,H1,I2,q1⟩) hf
 ·obtain⟨H1,s1,E',I1,c,q⟩:=z
  exact⟨σ,H1,s1,E',I1,c,q⟩
theorem aae {c:Expr} {a b:List Stmt} {pos:Pos} {tc:TT} {t u:Q_} (hc:PT X c tc) (ha:Yb X a t) (hb:Yb X b u) (hn:∀e s,X.xe e s->False:=by exact fun _ _ z=>z):PSX X (.If c a b pos) (ab_ tc t u):=by
 refine .mk ?_
 intro pins s σ H D EE I h
 refine wpAny_If (g_ (hc pins s σ H _ I h) (fun d s1 qx=>?_) fun _ _ z=>(hn _ _ z).elim)
 obtain ⟨H1,I1,q1⟩:=qx
 cases d with
 | true=>exact ha.go pins s1 σ H1 D EE I1 q1
 | false=>exact hb.go pins s1 σ H1 D EE I1 q1
theorem wY {st:Stmt} {a:Q_} (ha:PSX X st a):Yb X [st] a:=by
 refine .mk ?_
 intro pins s σ H D EE I h
 refine wpAny_execs_cons (g_ (ha.go pins s σ H _ EE I h) (fun fl s1 z=>?_) fun _ _ z=>z)
 cases fl with
 | next=>exact Ba z
 | ret u=>exact z
 | brk=>exact z
 | cont=>exact z
noncomputable def Yq (ie:Nat) (ok:Value->Prop) (tb:Q_) (ts:TS):TS:=fun D σ H=>tb D (fun cls σ1 H1 H2=>ok cls/\∀a H3,(aG H1 H2->aG H1 H3)->Rg H3 a cls->ts { nx:=fun σ' H'=>D.nx (σ'.set ie none) H',rt:=fun _ _=>False } (σ1.set ie (some (.ref a))) H3) σ H
theorem WN {K:PySem.W.Frag} {ie:Nat} {hx n:Str} {CH:Addr} {hp pos tp:Pos} {body:List Stmt} {b0:Stmt} {suite:List Stmt} {tb:Q_} {ts:TS} (hK:X.K=K)
  (hb:Yb X body tb) (hs:∀e,zV (X.in' e) (b0::suite) ts) (hN:X.N.Nodup) (hm:X.mg hx=some (.ref CH)) (hie:X.N[ie]?=some n:=by rfl) (hl:X.env.scope.names.lookup n=some .local:=by rfl) (hgx:Gl X hx:=by rfl)
  (hn:∀e s,X.xe e s->False:=by exact fun _ _ z=>z) (st:X.stack=X.env::X.outer:=by rfl) (fL:X.env.frame=some X.env.locals:=by rfl) (hd:(hx==("__debug__" : Str))=false:=by decide) :
  PS X (.Try body [.ExceptHandler (some (.Name hx hp)) (some n) (b0::suite) pos] [] [] tp) (Yq ie (fun cls=>PySem.W.exmOne K cls (.ref CH)=some true) tb ts):=by
 subst hK
 refine .mk ?_
 intro pins s σ H D I h
 refine wpAny_Try_except (g_ (hb.go pins s σ H D _ I h) (fun fl s1 z=>?_) fun e s' z=>?_)
 ·cases fl with
  | next=>exact Ba z
  | ret u=>exact z
  | brk=>exact z
  | cont=>exact z
 ·obtain⟨σ1,H1,s1,E',I1,c,q⟩:=z
  exact Vj I1 c q hN hie hl hgx hm hs hn st fL hd
end
noncomputable def adp:V->Option Str
 | .int i=>if i.natAbs.log2<1920 then some (Str.ofString (toString i)) else none
 | .str z=>some z
 | _=>none
noncomputable def tFv (te:TE):TE:=fun σ H Q=>te σ H fun x H1=>∃z,adp x=some z/\z.length<=sizeLine/\Q (.str z) H1
noncomputable abbrev TJ:=Str->St->Hp->(Str->Hp->Prop)->Prop
section
variable {X:Cx}
theorem YS {e:Expr} {te:TE} {pos:Pos} (he:PE X e te):PE X (.FormattedValue e (-1) none pos) (tFv te):=by
 refine .mk ?_
 intro pins s σ H Q I h
 refine FormattedValue_plain (cT (he pins s σ H _ I h) fun v s1 qx=>?_)
 obtain⟨x,H1,I1,r1,z,hz,hl,q⟩:=qx
 cases x with
 | int i=>
  obtain⟨t,rfl⟩:=r1
  by_cases hd:i.natAbs.log2<1920
  ·have e:z=Str.ofString (toString i):=(Option.some.inj ((aP hd).symm.trans hz)).symm
   subst e
   exact formatField_int_small hd ⟨.str _,H1,I1.tok _,⟨_,rfl⟩,q⟩
  ·have e:(none:Option Str)=some z:=(bB hd).symm.trans hz
   cases e
 | str y=>
  obtain⟨t,rfl⟩:=r1
  cases hz
  exact formatField_str (fun t' tk=>⟨.str _,H1,I1.tok _,⟨_,rfl⟩,q⟩) hl
 | _=>cases hz
structure PJ (X:Cx) (es:List Expr) (t:TJ):Prop where
 mk ::
 go:∀(acc:Str) (pins:List (Addr×Obj)) (s:Shared) (σ:St) (H:Hp) (R:Str->Hp->Prop),Inv X pins σ H s->t acc σ H R ->
  Joins (model X.prog X.w) X.A X.xe (evalEach es X.env) acc (fun out s'=>∃H',Inv X pins σ H' s'/\R out H') s
noncomputable def tJ0:TJ:=fun acc _ H R=>R acc H
noncomputable def tJ1 (te:TE) (t:TJ):TJ:=fun acc σ H R=>te σ H fun x H1=>∃y,x=.str y/\(acc++y).length<=sizeLine/\t (acc++y) σ H1 R
noncomputable def tJs (t:TJ):TE:=fun σ H Q=>t Str.empty σ H fun out H'=>out.length<=sizeLine/\Q (.str out) H'
theorem Joins.mono {M:Model} {A:Around} {E:Value->Shared->Prop}:∀{ps:List (Sem Value)} {acc:Str} {Q Q':Str->Shared->Prop} {s:Shared},(∀o s',Q o s'->Q' o s')->Joins M A E ps acc Q s->Joins M A E ps acc Q' s
 | [],_,_,_,_,h,j=>h _ _ j
 | _::_,_,_,_,_,h,j=>g_ j (fun _ _ ⟨y,t,e,l,r⟩=>⟨y,t,e,l,Joins.mono h r⟩) fun _ _ e=>e
theorem Tv:PJ X [] tJ0:=.mk fun acc pins s σ H R I h=>⟨H,I,h⟩
theorem oX {e:Expr} {es:List Expr} {te:TE} {t:TJ} (he:PE X e te) (hr:PJ X es t):PJ X (e::es) (tJ1 te t):=by
 refine .mk fun acc pins s σ H R I h=>?_
 show wpAny _ _ (eval e X.env) _ _ s
 refine cT (he pins s σ H _ I h) fun v s1 qx=>?_
 obtain⟨x,H1,I1,r1,y,ex,hl,q⟩:=qx
 subst ex
 obtain⟨t',rfl⟩:=r1
 exact⟨y,t',rfl,hl,hr.go _ pins s1 σ H1 R I1 q⟩
theorem YQ {a b:Expr} {r:List Expr} {t:TJ} {pos:Pos} (h:PJ X (a::b::r) t):PE X (.JoinedStr (a::b::r) pos) (tJs t):=by
 refine .mk fun pins s σ H Q I hw=>?_
 refine wpAny_JoinedStr (Joins.mono ?_ (h.go Str.empty pins s σ H _ I hw))
 rintro o s' ⟨H',I',hl,q⟩
 exact⟨hl,.str o,H',I'.tok _,⟨_,rfl⟩,q⟩
noncomputable def aev (K:PySem.W.Frag) (ta:TE):TT:=fun σ H Q=>ta σ H fun x H'=>∃k,age K x H' k/\Q k H'
end
noncomputable def tx (l:List Nat):Str:=⟨l.toArray⟩
theorem sO (l:List Nat):(tx l).length=l.length:=by show l.toArray.size=_; simp
theorem acd {z:Str} {l:List Nat} (h:z.cps.toList=l):z=tx l:=by subst h; cases z; simp[tx]
noncomputable def dg (n:Int):List Nat:=(Nat.toDigits 10 n.toNat).map Char.toNat
theorem ZP {n:Int} (h:0<=n):Str.ofString (toString n)=tx (dg n):=by
 obtain⟨m,rfl⟩:=Int.eq_ofNat_of_zero_le h
 exact acd (PySem.W.KIN.signs_num m)
theorem Vb {n:Int} {k:Nat} (hk:0<k) (h1:n<10 ^ k):(dg n).length<=k:=by
 unfold dg
 rw[bM]
 refine(Nat.length_toDigits_le_iff (by decide) hk).mpr ?_
 by_cases h0:0<=n
 ·have:(n.toNat:Int)<((10 ^ k:Nat):Int):=by rw[Int.toNat_of_nonneg h0]; simpa using h1
  exact_mod_cast this
 ·rw[show n.toNat=0 by omega]
  exact Nat.pow_pos (by decide)
theorem Qz {m:Nat} (h:m<=1000000000000):m.log2<1920:=by
 by_cases e:m=0
 ·subst e; decide
 ·rw[Nat.log2_lt e]
  exact Nat.lt_of_le_of_lt h (jU (show 1000000000000<2 ^ 40 by decide) (Py (by decide) (by decide)))
theorem U7 {n:Int} (h0:0<=n) (h1:n<=1000000000000):adp (.int n)=some (tx (dg n)):=by
 show(if n.natAbs.log2<1920 then some (Str.ofString (toString n)) else none)=_
 rw[aP (Qz (by omega)),ZP h0]
noncomputable abbrev liH (h:Heap) (t:Addr):Heap:=h.push { cls:=.type "list_iterator",data:=.fields #[.ref t,.int 0 0] }
noncomputable abbrev zB2 (h:Heap) (t1 t2:Addr):Heap:=liH (liH h t1) t2
noncomputable abbrev zB3 (h:Heap) (t1 t2:Addr):Heap:=(zB2 h t1 t2).push { cls:=.type "tuple",data:=.seq #[.ref h.objs.size,.ref (liH h t1).objs.size] }
noncomputable abbrev zB4 (h:Heap) (t1 t2:Addr):Heap:=(zB3 h t1 t2).push { cls:=.type "tuple",data:=.seq #[.none,.none] }
noncomputable abbrev Zq (h:Heap) (t1 t2:Addr):Heap:=(zB4 h t1 t2).push { cls:=.type "zip",data:=.fields #[.none,.bool false,.bool false,.ref (zB2 h t1 t2).objs.size,.ref (zB3 h t1 t2).objs.size] }
theorem Xg (t1 t2:Addr) (xs ys:Array Value):Meets (Builtin.«zip.__new__» ⟨[.type "zip",.ref t1,.ref t2],[]⟩) (fun _ R s=>s.heap.IsList t1 xs/\s.heap.IsList t2 ys/\R (.ok (.ret (.ref (zB4 s.heap t1 t2).objs.size))) { s with heap:=Zq s.heap t1 t2 }):=
 .of_wp fun prog w A R s z=>by
  obtain⟨hp,g,d,tk,os⟩:=s
  obtain⟨hx,hy,z⟩:=z
  have sub:=sub_zip
  have hX:Heap.IsList (Shared.heap ⟨hp,g,d,tk,os⟩) t1 xs:=hx
  have hY:Heap.IsList (Shared.heap ⟨liH hp t1,g,d,tk,os⟩) t2 ys:=hy.push _
  wp_walk using Jy hX,Jy hY
  exact⟨_,rfl,z⟩
theorem QS {prog:Program} {w:World} {A:Around} {E:Value->Shared->Prop} {s:Shared} {t1 t2:Addr} {xs ys:Array Value} {Q:Value->Shared->Prop} (hx:s.heap.IsList t1 xs) (hy:s.heap.IsList t2 ys)
  (q:∀h',IsZip h' (s.heap.objs.size+4) (s.heap.objs.size+2) (s.heap.objs.size+3) .none->IsPair h' (s.heap.objs.size+2) (.ref s.heap.objs.size) (.ref (s.heap.objs.size+1))->IsPair h' (s.heap.objs.size+3) .none .none ->
   h'.IsListIter s.heap.objs.size t1 0->h'.IsListIter (s.heap.objs.size+1) t2 0->(∀c o,s.heap.get? c=some o->h'.get? c=some o)->Q (.ref (s.heap.objs.size+4)) { s with heap:=h' }) :
  wpAny (model prog w) A (call (.type "zip") [.ref t1,.ref t2]) Q E s:=by
 have n1:(liH s.heap t1).objs.size=s.heap.objs.size+1:=jm ..
 have n2:(zB2 s.heap t1 t2).objs.size=s.heap.objs.size+2:=by rw[jm,n1]
 have n3:(zB3 s.heap t1 t2).objs.size=s.heap.objs.size+3:=by rw[jm,n2]
 have n4:(zB4 s.heap t1 t2).objs.size=s.heap.objs.size+4:=by rw[jm,n3]
 have up:∀c o,s.heap.get? c=some o->(Zq s.heap t1 t2).get? c=some o:=fun c o e=>dY _ (dY _ (dY _ (dY _ (dY _ e))))
 have v5:(Zq s.heap t1 t2).get? (zB4 s.heap t1 t2).objs.size=some _:=dJ _ rfl
 have v4:(Zq s.heap t1 t2).get? (zB3 s.heap t1 t2).objs.size=some _:=dY _ (dJ _ rfl)
 have v3:(Zq s.heap t1 t2).get? (zB2 s.heap t1 t2).objs.size=some _:=dY _ (dY _ (dJ _ rfl))
 have v2:(Zq s.heap t1 t2).get? (liH s.heap t1).objs.size=some _:=dY _ (dY _ (dY _ (dJ _ rfl)))
 have v1:(Zq s.heap t1 t2).get? s.heap.objs.size=some _:=dY _ (dY _ (dY _ (dY _ (dJ _ rfl))))
 refine callType_new F.called_zip (by decide) (F.typeCall_zip_2 _ _) (F.newCall_zip_2 _ _) (fun x=>F.args_object_init_3 x _ _) F.entry_zip_new (Xg t1 t2 xs ys) ⟨hx,hy,?_⟩
 show _/\_
 rw[n2,n3,n4] at v5
 rw[n1,n2] at v3
 rw[n3] at v4
 rw[n1] at v2
 rw[n4]
 exact⟨⟨_,v5,rfl⟩,q _ v5 v3 v4 ⟨_,v1,rfl,rfl⟩ ⟨_,v2,rfl,rfl⟩ up⟩
theorem ZR {X:Cx} {pins:List (Addr×Obj)} {σ:St} {H:Hp} {s:Shared} {a b:Addr} {xs:List V} (I:Inv X pins σ H s) (hq:dh X.K H a xs) (hf:ik X pins H b):a≠b:=fun z=>by
 rcases hq with h | ⟨o,its,n,hk,_⟩
 ·rcases h with h | ⟨o,h⟩ <;> (rw[z,hf.1] at h; cases h)
 ·have e:X.base.get? a=some o:=I.ok.mod.Xz a o hk
  rcases hf.2.2.2.1 with y | y
  ·exact I.ok.Hr a o e (z▸y)
  ·have l:=cC e
   have m:=I.ok.Rq
   rw[z] at l
   exact absurd (jU l (n_ m y)) (tM _)
noncomputable def kL:Knd:=⟨fun K=>dh K,fun h i a n=>h.IsListIter i a n,fun h a us=>h.IsList a us,fun⟨o,g,_,d⟩=>⟨o,g,fun v q=>by rw[d] at q; cases q⟩,fun g k=>g.at k,fun I h=>(I.list h).elim fun us p=>⟨us,p.1,p.2.1.isList⟩,fun I h h'=>I.xP h h',fun I h f=>ZR I h f,fun hh i a n us=>Draws.list hh i a n us⟩
noncomputable abbrev Vx:=Yc kL kL
section
variable {X:Cx}
noncomputable def NK (K:PySem.W.Frag) (ta:TA):TI:=fun σ H R=>ta σ H fun vs H1=>∃a b,vs=[.ref a,.ref b]/\(∃xs,dh K H1 a xs)/\(∃ys,dh K H1 b ys)/\R (Vx K a b) H1
theorem Mz {K:PySem.W.Frag} {e e':Expr} {elts:List Expr} {x1} {tp p pos:Pos} {ta:TA} (hK:X.K=K) (hm:X.mg "zip" = none) (ha:PA X [e,e'] ta) (hg:Gl X "zip" := by rfl) (h1:cD e=true:=by rfl) (h2:cD e'=true:=by rfl) :
  PI X (.Tuple elts x1 tp) (.Call (.Name "zip" p) [e,e'] [] pos) (NK K ta):=by
 subst hK
 refine .mk ?_
 intro pins s σ H R I h
 refine rn (iV I hg hm K5 ?_ (by decide) (by decide))
 refine PyProof.Rows.callWith_type1 (cT (ha pos pins s σ H _ I h) fun us s1 qx=>?_) (cQ h1) (cJ (es:=[e']) (by simp[h2]))
 obtain ⟨vs,H1,I1,r1,q1⟩:=qx
 obtain⟨a,b,rfl,⟨xs,hx⟩,⟨ys,hy⟩,q⟩:=q1
 obtain⟨u,v,rfl,ru,rv⟩:=r1.two
 cases ru
 cases rv
 obtain⟨us,_,pu,_⟩:=I1.list hx
 obtain⟨ws,_,pw,_⟩:=I1.list hy
 refine QS pu.isList pw.isList fun h' hz hp ho h1 h2 kk=>?_
 have I2:Inv X pins σ H1 { s1 with heap:=h' }:=I1.kept (t':=s1.toks) kk
 have fr:∀n,H1 (s1.heap.objs.size+n)=none:=fun n=>I1.hok.fresh (Bd _ _)
 have fk:∀n,ik X pins H1 (s1.heap.objs.size+n):=fun n=>I1.tY (Bd _ _) (fr n)
 have ne:∀i j:Nat,i≠j->s1.heap.objs.size+i≠s1.heap.objs.size+j:=fun i j n e=>n (Nat.add_left_cancel e)
 refine Mm hz ⟨s1.heap.objs.size+4,_,_,Vx X.K a b,H1,rfl,I2,sS kL kL a b (s1.heap.objs.size+4) (s1.heap.objs.size+2) (s1.heap.objs.size+3) s1.heap.objs.size (s1.heap.objs.size+1) (ne _ _ (by decide)) (ne _ _ (by decide)) (ne _ _ (by decide)) (ne 0 _ (by decide)) (ne _ _ (by decide)) (ne _ 0 (by decide)) (ne _ _ (by decide)) (ne 0 _ (by decide)) (ne _ 0 (by decide)) (ne _ _ (by decide)),⟨hz,hp,⟨_,_,ho⟩,h1,h2⟩,fun c hc=>?_,q⟩
 simp only[bU,jH,or_false] at hc
 rcases hc with rfl | rfl | rfl | rfl | rfl
 ·exact fk 4
 ·exact fk 2
 ·exact fk 3
 ·exact fk 0
 ·exact fk 1
end
theorem QQ {K:PySem.W.Frag} {js:List Nat} {a b:Addr} {xs ys:List V} {es:List PyData} {ta:TA} {te:TE} {σ:St} {H:Hp} {Q:VK} (hl:∀R:List V->Hp->Prop,R [.ref a,.ref b] H->ta σ H R) (ha:H a=some (.lst xs)) (hb:H b=some (.lst ys)) (n1:xs.length=es.length) (n2:ys.length=es.length) (hz:es.length<=sizeLine) (hL:bN es=true)
  (val:∀(i:Nat) x y e H',xs[i]?=some x->ys[i]?=some y->es[i]?=some e->aG H H'->∀R:VK,(∀v cY,aG H' cY->At cY e v->R v cY)->te (some x::some y::b7 js σ) H' R)
  (fin:∀acc zs H',aG H H'->H acc=none->H' acc=some (.lst zs)->ak (hid acc H') es zs->Q (.ref acc) H'):eV 2 js (NK K ta) (J7 K 2 (jO (eU 0) (jO (eU 1) zu))) pY te σ H Q:=by
 refine hl _ ⟨a,b,rfl,⟨xs,dh.of ha⟩,⟨ys,dh.of hb⟩,fun acc hacc=>?_⟩
 have gx:∀i,i<es.length->xs[i]?=some (xs.getD i .non):=fun i hi=>by rw[gC,fD (by omega)]; rfl
 have gy:∀i,i<es.length->ys[i]?=some (ys.getD i .non):=fun i hi=>by rw[gC,fD (by omega)]; rfl
 refine qu (es:=es) (fun i=>xs.getD i .non) (fun i=>ys.getD i .non) hz hL hacc (fun i H' hi s=>⟨xs,ys,_,_,dh.of (s _ _ ha),dh.of (s _ _ hb),gx i hi,gy i hi⟩) (fun i H' v cY hi s y=>?_) (fun H' s=>⟨xs,ys,dh.of (s _ _ ha),dh.of (s _ _ hb),.inl n1.symm⟩) (fun i e H' he s R hR=>?_) fun zs H' s h1 h2=>fin acc zs H' s hacc h1 h2
 ·obtain⟨p,x,y,fp,e1,e2,h1,h2⟩:=y
  have q1:=h1 xs (dh.of (s _ _ ha))
  have q2:=h2 ys (dh.of (s _ _ hb))
  rw[gx i hi] at q1
  rw[gy i hi] at q2
  cases q1
  cases q2
  exact⟨p,fp,e1,e2⟩
 ·have hi:i<es.length:=by
   by_cases z:i<es.length
   ·exact z
   ·rw[S_ (by omega)] at he; cases he
  exact val i _ _ e H' (gx i hi) (gy i hi) he s R hR
end L2
namespace L2
open PySem
structure Pl (n:Nat) (d:PyData):Prop where
 hd:d.hasDict=false
 cl:d.canLay0=true
 dp:d.depth<=n
end L2
namespace L2
open PySem PySem.Spec PyProof.Rows
noncomputable instance aef:DecidableEq PyData:=fun a b=>Classical.propDecidable (a=b)
mutual
noncomputable def ql:PyData->Bool
 | .int _=>true
 | .tuple ds=>gf ds
 | _=>false
noncomputable def gf:List PyData->Bool
 | []=>true
 | d::ds=>ql d&&gf ds
end
theorem xJ:∀{ds:List PyData},gf ds=true↔∀d∈ds,ql d=true
 | []=>by simp[gf]
 | d::ds=>by
  have ih:=xJ (ds:=ds)
  simp only[gf,wM,ih,bU,forall_eq_or_imp]
mutual
theorem mH:∀d:PyData,ql d=true->d.canLay0=true/\d.hasDict=false/\uQ d=true
 | .int _,_=>⟨rfl,rfl,rfl⟩
 | .tuple ds,h=>by
  obtain⟨h1,h2,h3⟩:=M6 ds (by simpa[ql] using h)
  exact⟨by simpa[PyData.canLay0] using h1,by simpa[PyData.hasDict] using h2,by simpa[uQ] using h3⟩
 | .none,h=>nomatch h
 | .bool _,h=>nomatch h
 | .str _,h=>nomatch h
 | .list _,h=>nomatch h
 | .dict _,h=>nomatch h
theorem M6:∀ds:List PyData,gf ds=true->PyData.canLayAll0 ds=true/\PyData.hasDictAll ds=false/\bN ds=true
 | [],_=>⟨rfl,rfl,rfl⟩
 | d::ds,h=>by
  have h':ql d=true/\gf ds=true:=by simpa[gf] using h
  obtain⟨h1,h2,h3⟩:=mH d h'.1
  obtain⟨g1,g2,g3⟩:=M6 ds h'.2
  exact⟨by simp[PyData.canLayAll0,h1,g1],by simp[PyData.hasDictAll,h2,g2],by simp[bN,h3,g3]⟩
end
mutual
theorem Dy:∀d e:PyData,ql d=true->ql e=true->(PyData.eqv d e=true↔d=e)
 | .int i,.int j,_,_=>by simp[PyData.eqv]
 | .int i,.tuple es,_,_=>by simp[PyData.eqv]
 | .tuple ds,.int j,_,_=>by simp[PyData.eqv]
 | .tuple ds,.tuple es,h,g=>by
  have:=Ht ds es (by simpa[ql] using h) (by simpa[ql] using g)
  simpa[PyData.eqv] using this
 | .none,_,h,_=>nomatch h
 | .bool _,_,h,_=>nomatch h
 | .str _,_,h,_=>nomatch h
 | .list _,_,h,_=>nomatch h
 | .dict _,_,h,_=>nomatch h
 | .int _,.none,_,h=>nomatch h
 | .int _,.bool _,_,h=>nomatch h
 | .int _,.str _,_,h=>nomatch h
 | .int _,.list _,_,h=>nomatch h
 | .int _,.dict _,_,h=>nomatch h
 | .tuple _,.none,_,h=>nomatch h
 | .tuple _,.bool _,_,h=>nomatch h
 | .tuple _,.str _,_,h=>nomatch h
 | .tuple _,.list _,_,h=>nomatch h
 | .tuple _,.dict _,_,h=>nomatch h
theorem Ht:∀ds es:List PyData,gf ds=true->gf es=true->(PyData.eqvAll ds es=true↔ds=es)
 | [],[],_,_=>by simp[PyData.eqvAll]
 | [],_::_,_,_=>by simp[PyData.eqvAll]
 | _::_,[],_,_=>by simp[PyData.eqvAll]
 | d::ds,e::es,h,g=>by
  have h':ql d=true/\gf ds=true:=by simpa[gf] using h
  have g':ql e=true/\gf es=true:=by simpa[gf] using g
  have h1:=Dy d e h'.1 g'.1
  have h2:=Ht ds es h'.2 g'.2
  simp[PyData.eqvAll,h1,h2]
end
theorem Xa {d e:PyData} (h:ql d=true) (g:ql e=true):PyData.eqv d e=decide (d=e):=by
 by_cases z:d=e
 ·rw[h_ z]; exact(Dy d e h g).mpr z
 ·rw[ju z]
  cases q:PyData.eqv d e with
  | false=>rfl
  | true=>exact absurd ((Dy d e h g).mp q) z
mutual
noncomputable def bJ:PyData->Int
 | .int i=>hashInt i
 | .tuple ds=>reduceHash (Builtin.Tuple.tupleHashOf (iW ds))
 | _=>0
noncomputable def iW:List PyData->List Int
 | []=>[]
 | d::ds=>bJ d::iW ds
end
mutual
noncomputable def N8:PyData->Nat
 | .tuple ds=>kW ds+1
 | _=>1
noncomputable def kW:List PyData->Nat
 | []=>0
 | d::ds=>N8 d+kW ds
end
theorem yd:∀a b:List PyData,iW (a++b)=iW a++iW b
 | [],_=>rfl
 | d::a,b=>by rw[Mh,iW,iW,yd a b]; rfl
theorem yp:∀a b:List PyData,kW (a++b)=kW a+kW b
 | [],_=>by rw[Az,kW,GJ]
 | d::a,b=>by rw[Mh,kW,kW,yp a b,Gp]
theorem lU:∀{ds:List PyData} {d:PyData},d∈ds->d.depth<=PyData.depthAll ds
 | x::ds,d,h=>by
  show d.depth<=max x.depth (PyData.depthAll ds)
  rcases bU.mp h with rfl | h
  ·omega
  ·have:=lU h
   omega
noncomputable def Fe (prog:Program) (w:World) (d:PyData):Prop:=∀(A:Around) (E:Value->Shared->Prop) (s:Shared) (v:Value) (as:List Addr) (Q:Int->Shared->Prop),Reads s.heap v d as->A.units+d.depth<cLine ->
 Q (bJ d) { s with toks:=s.toks+N8 d }->wpAny (model prog w) A (PySem.pyHash v) Q E s
theorem UT {prog:Program} {w:World} {ds:List PyData} (ih:∀d∈ds,Fe prog w d):Fe prog w (.tuple ds):=by
 intro A E s v as Q r hu h
 cases r with
 | @tuple a o items n _ _ ho hc hd hi=>
 have hT:s.TypeIs (.ref a) "tuple" := ⟨o,ho,hc⟩
 have aiX:A.units+(PyData.depthAll ds+1)<cLine:=hu
 have hu0:A.units<cLine:=by omega
 unfold pyHash
 first | unfold pyHashByItsType | skip
 first | refine aW (wpAny_cRoomFor_or (.inr hu0) ?_) | skip
 refine aW (Bb hT F.slot_tuple_hash.lookup ?_)
 show wpAny _ _ (if(some (Value.builtin "tuple.__hash__")==some Value.none)=true then _ else _) Q E s
 rw[bB (by rw[beq_builtin_none]; exact lK)]
 refine aW (Bb hT F.slot_tuple_hash.lookup ?_)
 show wpAny _ _ (callSpecialIfBoundUnlessNone? (.ref a) "__hash__" _ >>= _) Q E s
 refine aW (wpAny_callSpecialIfBoundUnlessNone?_slot hT F.slot_tuple_hash (wQ F.slot_tuple_hash hT F.entry_tuple_hash ?_ (F.args_tuple_hash_1 _)))
 show wpAny _ _ (Builtin.Tuple.tupleItemsOf (.ref a) >>= _) _ _ s
 refine aW (wpAny_tupleItemsOf ho hd ?_)
 refine aW ?_
 rw[<- Mq]
 refine G9 _
  (fun rest (b:Array Int) s'=>∃done left bs,ds=done++left/\ReadsAll s.heap rest left bs/\b.toList=iW done/\s'={ s with toks:=s.toks+kW done })
  _ ?_ ?_ _ _ ⟨[],ds,_,rfl,hi,rfl,rfl⟩
 ·rintro x rest b s' ⟨done,left,bs,e,hl,hb,rfl⟩
  cases hl with
  | @cons _ _ k ks' as1 bs1 h1 hl'=>
   have hk:k∈ds:=by rw[e]; simp
   refine aW (ih k hk _ _ _ _ _ _ h1 ?_ ?_)
   ·have:=lU hk
    show A.units+1+k.depth<cLine
    omega
   ·exact bV ⟨done++[k],ks',_,by rw[e]; simp,hl',by rw[yd]; simp[hb,iW],by rw[yp]; simp[kW,Gp]⟩
 ·rintro b s' ⟨done,left,bs,e,hl,hb,rfl⟩
  cases hl
  rw[lJ] at e
  subst e
  show wpAny _ _ (retInt (Builtin.Tuple.tupleHashOf b.toList)) _ _ _
  rw[hb]
  refine wpAny_ret_mkInt ?_
  show wpAny _ _ (if(decide (-(2:Int) ^ 63<=Builtin.Tuple.tupleHashOf (iW ds))&&decide (Builtin.Tuple.tupleHashOf (iW ds)<2 ^ 63))=true then _ else _) Q E _
  unfold bJ reduceHash N8 at h
  by_cases hr:(decide (-(2:Int) ^ 63<=Builtin.Tuple.tupleHashOf (iW ds))&&decide (Builtin.Tuple.tupleHashOf (iW ds)<2 ^ 63))=true
  ·rw[aP hr]
   rw[aP hr] at h
   exact bV (by simpa[Gp] using h)
  ·rw[bB hr]
   rw[bB hr] at h
   exact aW (rB (bV (by simpa[Gp] using h)))
mutual
theorem Bv {prog:Program} {w:World}:∀d:PyData,ql d=true->Fe prog w d
 | .int i,_=>by
  intro A E s v as Q r hu h
  cases r
  exact wpAny_pyHash_int h
 | .tuple ds,h=>UT (yc ds (by simpa[ql] using h))
 | .none,h=>nomatch h
 | .bool _,h=>nomatch h
 | .str _,h=>nomatch h
 | .list _,h=>nomatch h
 | .dict _,h=>nomatch h
theorem yc {prog:Program} {w:World}:∀ds:List PyData,gf ds=true->∀d∈ds,Fe prog w d
 | [],_,d,hd=>by cases hd
 | x::ds,h,d,hd=>by
  have h':ql x=true/\gf ds=true:=by simpa[gf] using h
  rcases bU.mp hd with e | e
  ·rw[e]; exact Bv x h'.1
  ·exact yc ds h'.2 d e
end
noncomputable def vD (prog:Program) (w:World) (d:PyData):Prop:=∀(n:Nat) (A:Around) (E:Value->Shared->Prop) (s:Shared) (v:Value) (as:List Addr) (Q:Bool->Shared->Prop),Reads s.heap v d as->d.depth<=n->Q true s ->
 wpAny (model prog w) A (eqIsQuiet n v) Q E s
theorem PN {prog:Program} {w:World} {ds:List PyData} (ih:∀d∈ds,vD prog w d):vD prog w (.tuple ds):=by
 intro n A E s v as Q r hn h
 have hn:PyData.depthAll ds+1<=n:=hn
 obtain⟨m,rfl⟩:∃m,n=m+1:=⟨n-1,by omega⟩
 cases r with
 | @tuple a o items nn _ _ ho hc hd hi=>
 have hT:s.TypeIs (.ref a) "tuple" := ⟨o,ho,hc⟩
 unfold eqIsQuiet
 refine aW (Bb hT F.slot_tuple_eq.lookup ?_)
 show wpAny _ _ (isInstance (.ref a) (.type "tuple") >>= _) _ _ s
 refine aW (wpAny_isInstance hT isSubtype_tuple_tuple ?_)
 simp only[wL,jw,if_false]
 refine aW (rm ho hd ?_)
 refine aW ?_
 show wpAny _ _ (forIn items _ _) _ _ s
 rw[<- Mq]
 refine G9 _ (fun rest r s'=>r.1=none/\s'=s/\∃left bs,(∀d∈left,d∈ds)/\ReadsAll s.heap rest left bs) _ ?_ ?_ _ _ ⟨rfl,rfl,ds,_,fun d h=>h,hi⟩
 ·rintro v rest r s' ⟨hr,rfl,left,bs,hall,hl⟩
  cases hl with
  | @cons _ _ k ks' as1 bs1 h1 hl'=>
  have hk:=hall k jT
  have:=lU hk
  refine aW (ih k hk m _ _ _ _ _ _ h1 (by omega) ?_)
  simp only[wL,jw,if_false]
  exact bV ⟨rfl,rfl,ks',bs1,fun d h=>hall d (jx _ h),hl'⟩
 ·rintro⟨r1,r2⟩ s' ⟨hr,rfl,_⟩
  simp only at hr
  subst hr
  exact bV h
mutual
theorem wV {prog:Program} {w:World}:∀d:PyData,ql d=true->vD prog w d
 | .int i,_=>by
  intro n A E s v as Q r hu h
  cases r
  rw[eqIsQuiet_byValue _ rfl]
  exact bV h
 | .tuple ds,h=>PN (uE ds (by simpa[ql] using h))
 | .none,h=>nomatch h
 | .bool _,h=>nomatch h
 | .str _,h=>nomatch h
 | .list _,h=>nomatch h
 | .dict _,h=>nomatch h
theorem uE {prog:Program} {w:World}:∀ds:List PyData,gf ds=true->∀d∈ds,vD prog w d
 | [],_,d,hd=>by cases hd
 | x::ds,h,d,hd=>by
  have h':ql x=true/\gf ds=true:=by simpa[gf] using h
  rcases bU.mp hd with e | e
  ·rw[e]; exact wV x h'.1
  ·exact uE ds h'.2 d e
end
mutual
theorem wK {h h':Heap} (k:∀b o,h.get? b=some o->o.cls=.type "tuple" -> (∃vs n,o.data=.seq vs n)->h'.get? b=some o):∀(d:PyData) (v:Value) (as:List Addr),ql d=true->Reads h v d as->Reads h' v d as
 | .int i,_,_,_,r=>by cases r; exact .int _ _
 | .tuple ds,_,_,g,r=>by
  cases r with
  | tuple ho hc hd hi=>exact .tuple (k _ _ ho hc ⟨_,_,hd⟩) hc hd (uD k ds _ _ (by simpa[ql] using g) hi)
 | .none,_,_,h,_=>nomatch h
 | .bool _,_,_,h,_=>nomatch h
 | .str _,_,_,h,_=>nomatch h
 | .list _,_,_,h,_=>nomatch h
 | .dict _,_,_,h,_=>nomatch h
theorem uD {h h':Heap} (k:∀b o,h.get? b=some o->o.cls=.type "tuple" -> (∃vs n,o.data=.seq vs n)->h'.get? b=some o):∀(ds:List PyData) (vs:List Value) (as:List Addr),gf ds=true->ReadsAll h vs ds as->ReadsAll h' vs ds as
 | [],_,_,_,r=>by cases r; exact .nil
 | d::ds,_,_,g,r=>by
  have g':ql d=true/\gf ds=true:=by simpa[gf] using g
  cases r with
  | cons h1 h2=>exact .cons (wK k d _ _ g'.1 h1) (uD k ds _ _ g'.2 h2)
end
noncomputable def bF (prog:Program) (w:World):HeapKind prog w PyData where
 is:=fun h d a=>ql d=true/\d.depth<=8/\∃as,Reads h (.ref a) d as
 hash:=bJ
 draws:=N8
 room:=fun A=>A.units+60<cLine
 inj:=fun⟨g,_,_,r⟩ ⟨_,_,_,r'⟩=>SeqAt.Reads.unique _ _ _ _ _ (mH _ g).1 r r'
 keeps:=fun {h h' k a d o es ep} ⟨g,dp,as,r⟩ ho hd hs=>⟨g,dp,as,wK (fun b ob hb hc ⟨vs,n,hq⟩=>by
  have hne:b≠d:=by
   rintro rfl
   obtain rfl:ob=o:=Option.some.inj (hb.symm.trans ho)
   rw[hd] at hq; exact nomatch hq
  exact(hs.2 b hne).trans hb) _ _ _ g r⟩
 pyHash:=fun hu ⟨g,dp,as,r⟩ h=>Bv _ g _ _ _ _ _ _ r (by omega) h
 eqBool:=fun {A E s x y a b Q} hu ⟨g,dp,as,r⟩ ⟨g',dp',as',r'⟩ h=>by
  have:=SeqAt.eqAt_reads x y A s _ _ _ _ r r' (mH _ g).1 (mH _ g').1 (by have:=Nat.min_le_left x.depth y.depth; omega)
  rw[Xa g g'] at this
  exact this prog w E Q h
 quiet:=fun⟨g,dp,as,r⟩ h=>wV _ g 8 _ _ _ _ _ _ r dp h
mutual
theorem At.tupS {H H':Hp} (k:∀b xs,H b=some (.tup xs)->H' b=some (.tup xs)):∀(d:PyData) (v:V),uQ d=true->At H d v->At H' d v
 | .none,_,_,h=>by unfold At at h ⊢; exact h
 | .bool _,_,_,h=>by unfold At at h ⊢; exact h
 | .int _,_,_,h=>by unfold At at h ⊢; exact h
 | .str _,_,_,h=>by unfold At at h ⊢; exact h
 | .tuple ds,v,n,h=>by
  unfold At at h ⊢
  obtain⟨a,ys,e,h1,h2⟩:=h
  exact⟨a,ys,e,k _ _ h1,ak.tupS k ds ys (by simpa[uQ] using n) h2⟩
 | .list _,_,n,_=>by simp[uQ] at n
 | .dict _,_,n,_=>by simp[uQ] at n
theorem ak.tupS {H H':Hp} (k:∀b xs,H b=some (.tup xs)->H' b=some (.tup xs)):∀(ds:List PyData) (ys:List V),bN ds=true->ak H ds ys->ak H' ds ys
 | [],_,_,h=>by unfold ak at h ⊢; exact h
 | d::ds,ys,n,h=>by
  unfold ak at h ⊢
  obtain⟨x,r,e,h1,h2⟩:=h
  have n':uQ d=true/\bN ds=true:=by simpa[bN] using n
  exact⟨x,r,e,At.tupS k d x n'.1 h1,ak.tupS k ds r n'.2 h2⟩
end
structure pX (d:PyData):Prop where
 t:∃ds,d=.tuple ds
 k:ql d=true
 dp:d.depth<=8
noncomputable def ndE (x:PyData×Addr×Value):DictEntry:=⟨bJ x.1,.ref x.2.1,x.2.2⟩
noncomputable def NdP (a:Addr) (xs:List (PyData×Addr×Value)) (h:Heap):Prop:=∃o es ep,h.get? a=some o/\o.ExactDict/\o.data=.dict es ep/\es.toList=xs.map ndE/\(xs.map (·.1)).Nodup/\xs.length<=sizeLine/\(a==sysModules)=false
noncomputable def Zg (a:Addr) (xs:List (PyData×Addr×Value)):HO:=.ext (NdP a xs)
noncomputable def jq (H:Hp) (a:Addr) (kvs:List (PyData×V)):Prop:=∃xs,H a=some (Zg a xs)/\Paired (fun(p:PyData×V) (q:PyData×Addr×Value)=>p.1=q.1/\pX p.1/\At H p.1 (.ref q.2.1)/\RelV p.2 q.2.2) kvs xs
theorem jq.keep {H H':Hp} {a:Addr} {kvs:List (PyData×V)} (n:jq H a kvs) (ha:H' a=H a) (k:∀b xs,H b=some (.tup xs)->H' b=some (.tup xs)):jq H' a kvs:=by
 obtain⟨xs,e,r⟩:=n
 exact⟨xs,ha.trans e,Paired.Xh r fun _ _ z=>⟨z.1,z.2.1,At.tupS k _ _ (mH _ z.2.1.k).2.2 z.2.2.1,z.2.2.2⟩⟩
theorem jq.same {H H':Hp} {a:Addr} {kvs:List (PyData×V)} (n:jq H a kvs) (s:aG H H'):jq H' a kvs:=by
 obtain⟨xs,e,r⟩:=id n
 exact n.keep ((s _ _ e).trans e.symm) fun b xs h=>s _ _ h
theorem jq.ext {H:Hp} {a:Addr} {kvs:List (PyData×V)} (n:jq H a kvs):∃φ,H a=some (.ext φ):=by
 obtain⟨xs,e,_⟩:=n
 exact⟨_,e⟩
theorem jq.V9 {H:Hp} {a p:Addr} {kvs:List (PyData×V)} {ys:List V} {o:HO} (n:jq H a kvs) (hp:H p=some (.lst ys)):jq (upd H p o) a kvs:=by
 obtain⟨φ,e⟩:=n.ext
 have na:a≠p:=fun z=>by rw[z,hp] at e; cases e
 refine n.keep (aR na) fun b xs h=>?_
 have nb:b≠p:=fun z=>by rw[z,hp] at h; cases h
 rw[aR nb]; exact h
noncomputable abbrev KN (H:Hp):List (PyData×V)->List (PyData×Addr×Value)->Prop:=Paired fun p q=>p.1=q.1/\pX p.1/\At H p.1 (.ref q.2.1)/\RelV p.2 q.2.2
theorem KN.val {H:Hp} {kvs:List (PyData×V)} {xs:List (PyData×Addr×Value)} (r:KN H kvs xs) (k:PyData):Ra (j9 kvs k) ((atKey xs k).map (·.2)):=by
 induction r with
 | nil=>exact True.intro
 | @cons p q ps qs h t ih=>
  obtain⟨h1,_,_,h2⟩:=h
  by_cases e:p.1=k
  ·have e':q.1=k:=h1.symm.trans e
   have b:atKey (q::qs) k=some q.2:=by simp[atKey,List.find?_cons,e']
   rw[gm e,b]; exact h2
  ·have e':¬q.1=k:=fun z=>e (h1.trans z)
   have b:atKey (q::qs) k=atKey qs k:=by simp[atKey,List.find?_cons,e']
   rw[gq e,b]; exact ih
theorem KN.repl {H:Hp} {kvs:List (PyData×V)} {xs:List (PyData×Addr×Value)} (r:KN H kvs xs) (k:PyData) {y:V} {u:Value} (ry:RelV y u) :
  KN H (kvs.map fun kv=>if kv.1=k then(kv.1,y) else kv) (xs.map (putAt k u)):=by
 induction r with
 | nil=>exact .nil
 | @cons p q ps qs h t ih=>
  rw[q_,q_]
  refine .cons ?_ ih
  obtain⟨h1,h2,h4,h3⟩:=h
  unfold putAt
  by_cases e:p.1=k
  ·rw[aP e,aP (h1.symm.trans e)]; exact⟨h1,h2,h4,ry⟩
  ·rw[bB e,bB (fun z=>e (h1.trans z))]; exact⟨h1,h2,h4,h3⟩
theorem KN.put {H:Hp} {kvs:List (PyData×V)} {xs:List (PyData×Addr×Value)} (r:KN H kvs xs) {k:PyData} {b:Addr} {y:V} {u:Value} (hk:pX k) (hb:At H k (.ref b)) (ry:RelV y u) :
  KN H (putK kvs k y) (storedH xs k b u):=by
 have e:(kvs.any fun kv=>decide (kv.1=k))=(atKey xs k).isSome:=by
  rw[qK,(r.val k).Bo,Option.isSome_map]
 unfold putK storedH
 rw[e]
 by_cases q:(atKey xs k).isSome=true
 ·rw[aP q,aP q]; exact r.repl k ry
 ·rw[bB q,bB q]; exact Paired.snoc r ⟨rfl,hk,hb,ry⟩
section
variable {X:Cx} {pins:List (Addr×Obj)} {σ:St} {H:Hp} {s:Shared} {a:Addr} {kvs:List (PyData×V)}
theorem rG (ok:lZ X.prog X.w H s.heap) {d:PyData} {b:Addr} (hk:pX d) (hd:At H d (.ref b)):(bF X.prog X.w).is s.heap d b:=by
 obtain⟨as,r⟩:=lH ok d (.ref b) (.ref b) hd rfl (mH _ hk.k).2.1
 exact⟨hk.k,hk.dp,as,r⟩
theorem aaC (ok:lZ X.prog X.w H s.heap):∀{kvs:List (PyData×V)} {xs:List (PyData×Addr×Value)},KN H kvs xs->∀x∈xs,(bF X.prog X.w).is s.heap x.1 x.2.1:=by
 intro kvs xs r
 induction r with
 | nil=>intro x hx; exact nomatch hx
 | @cons p q ps qs h t ih=>
  intro x hx
  rcases bU.mp hx with e | hx
  ·subst e
   obtain⟨h1,h2,h3,_⟩:=h
   rw[h1] at h2 h3
   exact rG ok h2 h3
  ·exact ih x hx
theorem T7 (I:Inv X pins σ H s) (n:jq H a kvs):∃xs,H a=some (Zg a xs)/\KN H kvs xs/\s.heap.DictOfH (bF X.prog X.w) a xs/\xs.length<=sizeLine/\(a==sysModules)=false:=by
 obtain⟨xs,e,r⟩:=n
 obtain⟨⟨o,es,ep,h1,h2,h3,h4,h5,h6,h7⟩,_,_⟩:=(show cz X.prog X.w H s.heap a (Zg a xs) from I.hok a _ e)
 exact⟨xs,e,r,⟨o,es,ep,h1,h2,h3,h4,aaC I.hok r,h5⟩,h6,h7⟩
theorem YZ {P:Program} {w:World} {H:Hp} {h:Heap} {xs:List (PyData×Addr×Value)} (n:NdP a xs h):cz P w H h a (Zg a xs):=by
 obtain⟨o,es,ep,h1,r⟩:=n
 refine⟨⟨o,es,ep,h1,r⟩,⟨o,h1⟩,fun h1' h2' z k=>?_⟩
 obtain⟨o',es',ep',g1,g⟩:=z
 exact⟨o',es',ep',k _ g1,g⟩
theorem pq {A:Around} (hu:A.units+64<cLine):(bF X.prog X.w).room A.in1:=by
 show A.units+1+60<cLine
 omega
noncomputable def iI (H:Hp) (d:PyData) (y:V):Prop:=pX d/\At H d y
theorem iI.ref {d:PyData} {y:V} {u:Value} (k:iI H d y) (r:RelV y u):∃b,y=.ref b/\u=.ref b:=by
 obtain⟨⟨⟨ds,rfl⟩,_,_⟩,h⟩:=k
 unfold At at h
 obtain⟨b,_,rfl,_,_⟩:=h
 exact⟨b,rfl,r⟩
theorem T9 {A:Around} {E:Value->Shared->Prop} {Q:Value->Shared->Prop} {d:PyData} {y:V} {u:Value} (hu:A.units+64<cLine) (I:Inv X pins σ H s) (n:jq H a kvs) (ky:iI H d y) (ry:RelV y u) (h:∀s',Inv X pins σ H s'->Q (.bool (!(j9 kvs d).isSome)) s') :
  wpAny (model X.prog X.w) A (compareOp .NotIn u (.ref a)) Q E s:=by
 obtain⟨b,rfl,rfl⟩:=ky.ref ry
 obtain⟨xs,e,r,dd,z,hd⟩:=T7 I n
 refine wpAny_notIn_heap (pq hu) (rG I.hok ky.1 ky.2) hd dd ?_
 have q:=(KN.val r d).Bo
 rw[Option.isSome_map] at q
 rw[<- q]
 exact h _ (I.tok _)
theorem Hs {h':Heap} {t':Nat} {xs ys:List (PyData×Addr×Value)} {kvs':List (PyData×V)} (I:Inv X pins σ H s) (e:H a=some (Zg a xs)) (hs:Heap.SameBut a s.heap h') (dd:h'.DictOfH (bF X.prog X.w) a ys) (z:ys.length<=sizeLine) (hd:(a==sysModules)=false) (r:KN H kvs' ys) :
  Inv X pins σ (upd H a (Zg a ys)) { s with heap:=h',toks:=t' }/\jq (upd H a (Zg a ys)) a kvs':=by
 obtain⟨o,es,ep,h1,h2,h3,h4,h5,h6⟩:=dd
 refine⟨I.write (x:=a) (e:=a) (by rw[e]; exact True.intro) (.inl rfl) (fun b q hb z=>(hs.2 b hb).trans z) ⟨o,h1⟩ (YZ ⟨o,es,ep,h1,h2,h3,h4,h6,z,hd⟩),ys,aC,?_⟩
 refine Paired.Xh r fun _ _ z=>⟨z.1,z.2.1,At.tupS (fun b xs hb=>?_) _ _ (mH _ z.2.1.k).2.2 z.2.2.1,z.2.2.2⟩
 have nb:b≠a:=fun z=>by rw[z,e] at hb; cases hb
 rw[aR nb]; exact hb
theorem uo (xs:List (PyData×Addr×Value)) (k:PyData) (b:Addr) (u:Value):(storedH xs k b u).length<=xs.length+1:=by
 unfold storedH
 split
 ·rw[bM]; omega
 ·rw[gH,jF,GR]; exact bI _
noncomputable def eG (H:Hp) (a:Addr) (kvs:List (PyData×V)) (d:PyData) (v:V) (H':Hp):Prop:=(∃φ,H'=upd H a (.ext φ))/\jq H' a (putK kvs d v)
theorem aaB {A:Around} {E:Value->Shared->Prop} {Q:Unit->Shared->Prop} {d:PyData} {y v:V} {u r:Value} (hu:A.units+64<cLine) (I:Inv X pins σ H s) (n:jq H a kvs) (hl:kvs.length<sizeLine) (ky:iI H d y) (ry:RelV y u) (rv:RelV v r) (h:∀H' s',eG H a kvs d v H'->Inv X pins σ H' s'->Q () s') :
  wpAny (model X.prog X.w) A (setItem (.ref a) u r) Q E s:=by
 obtain⟨b,rfl,rfl⟩:=ky.ref ry
 obtain⟨xs,e,rel,dd,z,hd⟩:=T7 I n
 have hl':xs.length=kvs.length:=(Paired.length rel).symm
 have:=uo xs d b r
 refine wpAny_setItem_heap (hsz:=z) (pq hu) (rG I.hok ky.1 ky.2) dd fun h' dd' hs=>?_
 obtain⟨I',n'⟩:=Hs (t':=s.toks+(bF X.prog X.w).draws d) I e hs dd' (by omega) hd (KN.put rel ky.1 ky.2 rv)
 exact h _ _ ⟨⟨_,rfl⟩,n'⟩ I'
theorem eG.tup {H H':Hp} {a:Addr} {kvs:List (PyData×V)} {d:PyData} {v:V} (n:jq H a kvs) (p:eG H a kvs d v H'):∀b xs,H b=some (.tup xs)->H' b=some (.tup xs):=fun b xs h=>by
 obtain⟨⟨φ,rfl⟩,_⟩:=p
 obtain⟨ψ,e⟩:=n.ext
 have nb:b≠a:=fun z=>by rw[z,e] at h; cases h
 rw[aR nb]; exact h
theorem eG.lst {H H':Hp} {a:Addr} {kvs:List (PyData×V)} {d:PyData} {v:V} (n:jq H a kvs) (p:eG H a kvs d v H'):∀b xs,H b=some (.lst xs)->H' b=some (.lst xs):=fun b xs h=>by
 obtain⟨⟨φ,rfl⟩,_⟩:=p
 obtain⟨ψ,e⟩:=n.ext
 have nb:b≠a:=fun z=>by rw[z,e] at h; cases h
 rw[aR nb]; exact h
theorem eG.at {H H':Hp} {a:Addr} {kvs:List (PyData×V)} {d e:PyData} {v u:V} (n:jq H a kvs) (p:eG H a kvs d v H') (h:uQ e=true) (x:At H e u):At H' e u:=At.tupS (eG.tup n p) _ _ h x
theorem eG.same {H H':Hp} {a:Addr} {kvs:List (PyData×V)} {d:PyData} {v:V} {H0:Hp} (p:eG H a kvs d v H') (s:aG H0 H) (f:H0 a=none):aG H0 H':=by
 obtain⟨⟨φ,rfl⟩,_⟩:=p
 exact s.eZ f
end
section
variable {X:Cx}
theorem Qf (hu:X.A.units+64<cLine):qJ X (compareOp .NotIn) (fun x y H Q=>∃a kvs d,y=.ref a/\jq H a kvs/\iI H d x/\Q (.bl (!(j9 kvs d).isSome)) H):=by
 refine .mk ?_
 intro pins s σ H x y v u Q I rx ry h
 obtain⟨a,kvs,d,rfl,n,k,q⟩:=h
 cases ry
 exact T9 hu I n k rx fun s' I'=>⟨.bl _,H,I',rfl,q⟩
theorem ZX (hu:X.A.units+64<cLine):Rc X (fun o i v H Q=>∃a kvs d,o=.ref a/\jq H a kvs/\kvs.length<sizeLine/\iI H d i/\∀H',eG H a kvs d v H'->Q H'):=by
 refine .mk ?_
 intro pins s σ H o i v ov iv u Q I ro ri rv h
 obtain⟨a,kvs,d,rfl,n,hl,k,q⟩:=h
 cases ro
 exact aaB hu I n hl k ri rv fun H' s' p I'=>⟨H',I',q H' p⟩
theorem T_ {h:Heap} (hb:sysModules<h.objs.size):NdP h.objs.size [] (h.push { cls:=.type "dict",data:=.dict #[] }):=
 ⟨_,#[],0,dJ _ rfl,⟨rfl,rfl,rfl⟩,rfl,rfl,List.nodup_nil,e_ _,beq_eq_false_iff_ne.mpr (Ne.symm (gw hb))⟩
noncomputable def Wf (tk tv:TE):TE:=fun σ H Q=>∀p H0,H p=none->jq H0 p []->(∃φ,H0=upd H p (.ext φ))->tk σ H0 fun x H1=>tv σ H1 fun y H2=>∃x' y',[(x,y)]=[(x',y')]/\jq H2 p []/\∃d,iI H2 d x'/\∀H3,eG H2 p [] d y' H3->Q (.ref p) H3
theorem P0 (hu:X.A.units+64<cLine) {k v:Expr} {pos:Pos} {tk tv:TE} (hk:PE X k tk) (hv:PE X v tv):PE X (.Dict [some k] [v] pos) (Wf tk tv):=by
 refine .mk ?_
 intro pins s σ H Q I h
 have hf:=I.hok.fresh (bI s.heap.objs.size)
 have I1:=I.laid (a:=s.heap.objs.size) (o:=Zg s.heap.objs.size []) (t':=s.toks) (fun _ _ q=>dY _ q) (bI _) (YZ (T_ I.big))
 have pp:PPs X pos [some k] [v] [(tk,tv)]:=Tu hk hv WR
 have h1:=h _ _ hf ⟨[],aC,.nil⟩ ⟨_,rfl⟩
 refine wpAny_Dict_any rfl rfl (by intro z; cases z) (by show 1<=15; decide) (cT (pp pins _ σ _ (fun ps H'=>∃x y,ps=[(x,y)]/\jq H' s.heap.objs.size []/\∃d,iI H' d x/\∀H3,eG H' s.heap.objs.size [] d y H3->Q (.ref s.heap.objs.size) H3) I1 h1) ?_)
 rintro vs s1 ⟨ps,H1,I2,rel,x,y,rfl,n,d,ky,q⟩
 cases rel with
 | @cons _ q0 _ _ h2 t2=>
 cases t2
 obtain⟨b,rfl,e2⟩:=ky.ref h2.1
 obtain⟨xs,e,rr,dd,z,hd⟩:=T7 I2 n
 cases rr
 obtain⟨q1,q2⟩:=q0
 cases(show q1=Value.ref b from e2)
 unfold storeAll
 rw[Jv]
 refine aW (aW (wpAny_dictSet_heap (hsz:=z) (show(bF X.prog X.w).room X.A by show X.A.units+60<cLine; omega) (rG I2.hok ky.1 ky.2) dd fun h' dd' hs=>bV ?_))
 obtain⟨I',n'⟩:=Hs (t':=s1.toks+(bF X.prog X.w).draws d) I2 e hs dd' (n_ (uo _ _ _ _) (by rw[sizeLine_eq]; show 1<=16777216; decide)) hd (KN.put .nil ky.1 ky.2 h2.2)
 dsimp only
 rw[List.forIn_nil]
 exact bV ⟨.ref s.heap.objs.size,_,I',rfl,q _ ⟨⟨_,rfl⟩,n'⟩⟩
end
section
variable {X:Cx}
end
theorem zT:bootBuiltins "ValueError" = some (.type "ValueError"):=by decide +kernel
section
variable {X:Cx}
noncomputable def EKT (K:PySem.W.Frag) (g:TG) (tb:TS) (D:Ends) (σ:St) (vs:List V) (H1:Hp):Prop:=∃a,vs=[.ref a]/\(∃xs,cB K H1 a xs)/\∃W:Nat->Nat->St->Hp->Prop,(∃m,W 0 m σ H1)/\∀i m σ H,W i m σ H ->
 ((Rf K a).stop i H/\D.nx σ H)\/((Rf K a).go i H/\∃N:St->Hp->Prop,(∀σ' H',N σ' H'->∃m',m'<m/\W (i+1) m' σ' H')/\∀x H',(Rf K a).vH i H x H'->g x σ H' fun σ2 H2=>tb { D with nx:=N,ct:=N,bk:=D.nx } σ2 H2)
theorem Je {K:PySem.W.Frag} {ta:TA} {g:TG} {tb:TS} {D:Ends} {σ:St} {H:Hp}:yS (J6 K ta) g tb D σ H=ta σ H (EKT K g tb D σ):=rfl
theorem EKT.of {K:PySem.W.Frag} {g:TG} {tb:TS} {D:Ends} {σ:St} {H:Hp} {a:Addr} {xs:List V} (ha:H a=some (.tup xs)) (Pv:Nat->St->Hp->Prop) (h0:Pv 0 σ H) (hl:∀i σ H',i<=xs.length->Pv i σ H'->H' a=some (.tup xs))
  (hs:∀i x σ H p,xs[i]?=some x->Pv i σ H->H p=none->g (.ref p) σ (upd H p (.tup [.int (i:Nat),x])) fun σ2 H2=>tb { D with nx:=Pv (i+1),ct:=Pv (i+1),bk:=D.nx } σ2 H2) (hd:∀σ H,Pv xs.length σ H->D.nx σ H):EKT K g tb D σ [.ref a] H:=by
 refine⟨a,rfl,⟨xs,cB.of ha⟩,fun i m σ H=>m=xs.length-i/\i<=xs.length/\Pv i σ H,⟨_,rfl,e_ _,h0⟩,?_⟩
 rintro i m σ H ⟨rfl,hi,p⟩
 have q:cB K H a xs:=cB.of (hl i σ H hi p)
 by_cases hlt:i<xs.length
 ·refine .inr ⟨⟨xs,xs[i],q,fD hlt⟩,Pv (i+1),fun σ' H' p'=>⟨xs.length-(i+1),by omega,rfl,hlt,p'⟩,fun x H' y=>?_⟩
  obtain⟨t,z,ht,rfl,rfl,hz⟩:=y
  exact hs i z σ H t (hz xs q) p ht
 ·have e:i=xs.length:=by omega
  subst e
  exact .inl ⟨⟨xs,q,rfl⟩,hd σ H p⟩
end
noncomputable abbrev V3 (h:Heap) (t1 t2:Addr):Heap:=liH (tiH h t1) t2
noncomputable abbrev V2 (h:Heap) (t1 t2:Addr):Heap:=(V3 h t1 t2).push { cls:=.type "tuple",data:=.seq #[.ref h.objs.size,.ref (tiH h t1).objs.size] }
noncomputable abbrev V1 (h:Heap) (t1 t2:Addr):Heap:=(V2 h t1 t2).push { cls:=.type "tuple",data:=.seq #[.none,.none] }
noncomputable abbrev IW (h:Heap) (t1 t2:Addr):Heap:=(V1 h t1 t2).push { cls:=.type "zip",data:=.fields #[.none,.bool false,.bool false,.ref (V3 h t1 t2).objs.size,.ref (V2 h t1 t2).objs.size] }
theorem Ud (t1 t2:Addr) (xs ys:Array Value):Meets (Builtin.«zip.__new__» ⟨[.type "zip",.ref t1,.ref t2],[]⟩) (fun _ R s=>s.heap.IsTuple t1 xs/\s.heap.IsList t2 ys/\R (.ok (.ret (.ref (V1 s.heap t1 t2).objs.size))) { s with heap:=IW s.heap t1 t2 }):=
 .of_wp fun prog w A R s z=>by
  obtain⟨hp,g,d,tk,os⟩:=s
  obtain⟨hx,hy,z⟩:=z
  have sub:=sub_zip
  have hX:Heap.IsTuple (Shared.heap ⟨hp,g,d,tk,os⟩) t1 xs:=hx
  have hY:Heap.IsList (Shared.heap ⟨tiH hp t1,g,d,tk,os⟩) t2 ys:=hy.push _
  wp_walk using JB hX,Jy hY
  exact⟨_,rfl,z⟩
theorem KJ {prog:Program} {w:World} {A:Around} {E:Value->Shared->Prop} {s:Shared} {t1 t2:Addr} {xs ys:Array Value} {Q:Value->Shared->Prop} (hx:s.heap.IsTuple t1 xs) (hy:s.heap.IsList t2 ys)
  (q:∀h',IsZip h' (s.heap.objs.size+4) (s.heap.objs.size+2) (s.heap.objs.size+3) .none->IsPair h' (s.heap.objs.size+2) (.ref s.heap.objs.size) (.ref (s.heap.objs.size+1))->IsPair h' (s.heap.objs.size+3) .none .none ->
   h'.IsTupleIter s.heap.objs.size t1 0->h'.IsListIter (s.heap.objs.size+1) t2 0->(∀c o,s.heap.get? c=some o->h'.get? c=some o)->Q (.ref (s.heap.objs.size+4)) { s with heap:=h' }) :
  wpAny (model prog w) A (call (.type "zip") [.ref t1,.ref t2]) Q E s:=by
 have n1:(tiH s.heap t1).objs.size=s.heap.objs.size+1:=jm ..
 have n2:(V3 s.heap t1 t2).objs.size=s.heap.objs.size+2:=by rw[jm,n1]
 have n3:(V2 s.heap t1 t2).objs.size=s.heap.objs.size+3:=by rw[jm,n2]
 have n4:(V1 s.heap t1 t2).objs.size=s.heap.objs.size+4:=by rw[jm,n3]
 have up:∀c o,s.heap.get? c=some o->(IW s.heap t1 t2).get? c=some o:=fun c o e=>dY _ (dY _ (dY _ (dY _ (dY _ e))))
 have v5:(IW s.heap t1 t2).get? (V1 s.heap t1 t2).objs.size=some _:=dJ _ rfl
 have v4:(IW s.heap t1 t2).get? (V2 s.heap t1 t2).objs.size=some _:=dY _ (dJ _ rfl)
 have v3:(IW s.heap t1 t2).get? (V3 s.heap t1 t2).objs.size=some _:=dY _ (dY _ (dJ _ rfl))
 have v2:(IW s.heap t1 t2).get? (tiH s.heap t1).objs.size=some _:=dY _ (dY _ (dY _ (dJ _ rfl)))
 have v1:(IW s.heap t1 t2).get? s.heap.objs.size=some _:=dY _ (dY _ (dY _ (dY _ (dJ _ rfl))))
 refine callType_new F.called_zip (by decide) (F.typeCall_zip_2 _ _) (F.newCall_zip_2 _ _) (fun x=>F.args_object_init_3 x _ _) F.entry_zip_new (Ud t1 t2 xs ys) ⟨hx,hy,?_⟩
 show _/\_
 rw[n2,n3,n4] at v5
 rw[n1,n2] at v3
 rw[n3] at v4
 rw[n1] at v2
 rw[n4]
 exact⟨⟨_,v5,rfl⟩,q _ v5 v3 v4 ⟨_,v1,rfl,rfl⟩ ⟨_,v2,rfl,rfl⟩ up⟩
noncomputable abbrev Zi:=Yc kT kL
section
variable {X:Cx}
noncomputable def UJ (K:PySem.W.Frag) (ta:TA):TI:=fun σ H R=>ta σ H fun vs H1=>∃a b,vs=[.ref a,.ref b]/\(∃xs,cB K H1 a xs)/\(∃ys,dh K H1 b ys)/\R (Zi K a b) H1
theorem Tz {K:PySem.W.Frag} {e e':Expr} {elts:List Expr} {x1} {tp p pos:Pos} {ta:TA} (hK:X.K=K) (hm:X.mg "zip" = none) (ha:PA X [e,e'] ta) (hg:Gl X "zip" := by rfl) (h1:cD e=true:=by rfl) (h2:cD e'=true:=by rfl) :
  PI X (.Tuple elts x1 tp) (.Call (.Name "zip" p) [e,e'] [] pos) (UJ K ta):=by
 subst hK
 refine .mk ?_
 intro pins s σ H R I h
 refine rn (iV I hg hm K5 ?_ (by decide) (by decide))
 refine PyProof.Rows.callWith_type1 (cT (ha pos pins s σ H _ I h) fun us s1 qx=>?_) (cQ h1) (cJ (es:=[e']) (by simp[h2]))
 obtain ⟨vs,H1,I1,r1,q1⟩:=qx
 obtain⟨a,b,rfl,⟨xs,hx⟩,⟨ys,hy⟩,q⟩:=q1
 obtain⟨u,v,rfl,ru,rv⟩:=r1.two
 cases ru
 cases rv
 obtain⟨us,_,pu,_⟩:=I1.tuple hx
 obtain⟨ws,_,pw,_⟩:=I1.list hy
 refine KJ (show s1.heap.IsTuple a us.toArray from pu) pw.isList fun h' hz hp ho h1 h2 kk=>?_
 have I2:Inv X pins σ H1 { s1 with heap:=h' }:=I1.kept (t':=s1.toks) kk
 have fr:∀n,H1 (s1.heap.objs.size+n)=none:=fun n=>I1.hok.fresh (Bd _ _)
 have fk:∀n,ik X pins H1 (s1.heap.objs.size+n):=fun n=>I1.tY (Bd _ _) (fr n)
 have ne:∀i j:Nat,i≠j->s1.heap.objs.size+i≠s1.heap.objs.size+j:=fun i j n e=>n (Nat.add_left_cancel e)
 refine Mm hz ⟨s1.heap.objs.size+4,_,_,Zi X.K a b,H1,rfl,I2,sS kT kL a b (s1.heap.objs.size+4) (s1.heap.objs.size+2) (s1.heap.objs.size+3) s1.heap.objs.size (s1.heap.objs.size+1) (ne _ _ (by decide)) (ne _ _ (by decide)) (ne _ _ (by decide)) (ne 0 _ (by decide)) (ne _ _ (by decide)) (ne _ 0 (by decide)) (ne _ _ (by decide)) (ne 0 _ (by decide)) (ne _ 0 (by decide)) (ne _ _ (by decide)),⟨hz,hp,⟨_,_,ho⟩,h1,h2⟩,fun c hc=>?_,q⟩
 simp only[bU,jH,or_false] at hc
 rcases hc with rfl | rfl | rfl | rfl | rfl
 ·exact fk 4
 ·exact fk 2
 ·exact fk 3
 ·exact fk 0
 ·exact fk 1
end
theorem Kw {K:PySem.W.Frag} {nt:Nat} {g:TG} {js:List Nat} {a b:Addr} {xs ys:List V} {es:List PyData} {ta:TA} {te:TE} {σ:St} {H:Hp} {Q:VK} (τ:Nat->St) (hτ:∀i,(τ i).length=nt) (hl:∀R:List V->Hp->Prop,R [.ref a,.ref b] H->ta σ H R) (ha:H a=some (.tup xs)) (hb:H b=some (.lst ys)) (n1:xs.length=es.length) (n2:ys.length=es.length) (hz:es.length<=sizeLine) (hL:bN es=true)
  (tgt:∀(i:Nat) x y p H',xs[i]?=some x->ys[i]?=some y->aG H H'->H' p=some (.tup [x,y])->∀R:St->Hp->Prop,R (τ i++b7 js σ) H'->g (.ref p) (List.replicate nt none++b7 js σ) H' R)
  (val:∀(i:Nat) e H',es[i]?=some e->aG H H'->∀R:VK,(∀v cY,aG H' cY->At cY e v->R v cY)->te (τ i++b7 js σ) H' R)
  (fin:∀acc zs H',aG H H'->H acc=none->H' acc=some (.lst zs)->ak (hid acc H') es zs->Q (.ref acc) H'):eV nt js (UJ K ta) g pY te σ H Q:=by
 refine hl _ ⟨a,b,rfl,⟨xs,cB.of ha⟩,⟨ys,dh.of hb⟩,fun acc hacc=>?_⟩
 have gx:∀i,i<es.length->xs[i]?=some (xs.getD i .non):=fun i hi=>by rw[gC,fD (by omega)]; rfl
 have gy:∀i,i<es.length->ys[i]?=some (ys.getD i .non):=fun i hi=>by rw[gC,fD (by omega)]; rfl
 refine qt (es:=es) τ hτ hz hL hacc (fun i H' hi s=>⟨xs,ys,_,_,cB.of (s _ _ ha),dh.of (s _ _ hb),gx i hi,gy i hi⟩) (fun i H' v cY hi s y=>?_) (fun H' s=>⟨xs,ys,cB.of (s _ _ ha),dh.of (s _ _ hb),.inl n1.symm⟩) val fun zs H' s h1 h2=>fin acc zs H' s hacc h1 h2
 obtain⟨p,x,y,fp,rfl,rfl,h1,h2⟩:=y
 have q1:=h1 xs (cB.of (s _ _ ha))
 have q2:=h2 ys (dh.of (s _ _ hb))
 exact⟨aM fp _,fun R hR=>tgt i x y p _ q1 q2 (s.trans (aM fp _)) aC R hR⟩
noncomputable def gR:Nat->Nat->Nat
 | 0,x=>x
 | r+1,x=>gR r (5*x+1)
theorem J8:∀(r s x:Nat),gR (r+s) x=gR s (gR r x)
 | 0,s,x=>by rw[GJ]; rfl
 | r+1,s,x=>by rw[show r+1+s=(r+s)+1 by omega]; exact J8 r s (5*x+1)
theorem U3:∀k:Nat,∃a b:Nat,∀x,gR (2 ^ k) x=(1+4*2 ^ k*a)*x+2 ^ k*(1+2*b)
 | 0=>⟨1,0,fun x=>by show 5*x+1=(1+4*1*1)*x+1*(1+2*0); omega⟩
 | k+1=>by
  obtain⟨a,b,h⟩:=U3 k
  refine⟨a+2*2 ^ k*a*a,b+2 ^ k*a+2*b*2 ^ k*a,fun x=>?_⟩
  rw[show 2 ^ (k+1)=2 ^ k+2 ^ k by rw[GF]; omega,J8,h,h]
  generalize 2 ^ k=P
  grind
theorem XH (k x:Nat):gR (2 ^ k) x % (2 ^ k*2)=(x+2 ^ k) % (2 ^ k*2):=by
 obtain⟨a,b,h⟩:=U3 k
 rw[h]
 generalize 2 ^ k=P
 have e:(1+4*P*a)*x+P*(1+2*b)=(x+P)+P*2*(2*a*x+b):=by grind
 rw[e,Nat.add_mul_mod_self_left]
theorem Qx {P z y:Nat} (h:z % P=y % P):z % (P*2)=y % (P*2)\/(z+P) % (P*2)=y % (P*2):=by
 rcases Nat.eq_zero_or_pos P with e | hp
 ·subst e
  left
  simpa using h
 ·rw[Nat.mod_mul,Nat.mod_mul (x:=y),Nat.mod_mul (x:=z+P),h,Nat.add_mod_right,h,Nat.add_div_right _ hp]
  rcases Nat.mod_two_eq_zero_or_one (z / P) with a | a <;> rcases Nat.mod_two_eq_zero_or_one (y / P) with b | b
  ·left; rw[a,b]
  ·right; rw[b,show(z / P).succ % 2=1 by omega]
  ·right; rw[b,show(z / P).succ % 2=0 by omega]
  ·left; rw[a,b]
theorem Ea:∀(k x y:Nat),∃r,r<2 ^ k/\gR r x % 2 ^ k=y % 2 ^ k
 | 0,x,y=>⟨0,by decide,by rw[Nat.pow_zero,Nat.mod_one,Nat.mod_one]⟩
 | k+1,x,y=>by
  obtain⟨r,hr,e⟩:=Ea k x y
  have hp:0<2 ^ k:=Nat.pow_pos (by decide)
  rw[GF]
  rcases Qx e with z | z
  ·exact⟨r,by omega,z⟩
  ·exact⟨r+2 ^ k,by omega,by rw[J8,XH]; exact z⟩
open SetTable (Probe runEnd leap turns bits)
noncomputable def Ca (m:Nat) (p:Probe):Probe:=
 if p.more>0 then { p with j:=p.j+1,more:=p.more-1 } else
 { p with j:=(leap m p.i p.perturb).1,more:=runEnd m (leap m p.i p.perturb).1-(leap m p.i p.perturb).1,i:=(leap m p.i p.perturb).1,perturb:=(leap m p.i p.perturb).2 }
theorem abe (t:SetTable) (p:Probe):t.advance p=Ca t.mask p:=rfl
noncomputable def il (m:Nat):Nat->Probe->Probe
 | 0,p=>p
 | n+1,p=>il m n (Ca m p)
theorem mK (m:Nat):∀(a b:Nat) (p:Probe),il m (a+b) p=il m b (il m a p)
 | 0,b,p=>by rw[GJ]; rfl
 | a+1,b,p=>by rw[show a+1+b=(a+b)+1 by omega]; exact mK m a b (Ca m p)
theorem Uv (m n:Nat) (p:Probe):il m (n+1) p=Ca m (il m n p):=mK m n 1 p
structure WP (m:Nat) (p:Probe):Prop where
 i:p.i<=m
 j:p.j+p.more=runEnd m p.i
 q:p.perturb<2 ^ 64
 d:p.dummy=none
 ij:p.i<=p.j
theorem iR {m i:Nat} (h:i<=m):runEnd m i<=m/\i<=runEnd m i/\runEnd m i<=i+9:=by unfold runEnd; split <;> omega
theorem rJ (m i q:Nat):(leap m i q).1<=m:=by
 show(i*5+1+q / 32) % (m+1)<=m
 exact Nat.le_of_lt_succ (Nat.mod_lt _ (Nat.succ_pos m))
theorem WP.Ca {m:Nat} {p:Probe} (h:WP m p):WP m (Ca m p):=by
 unfold L2.Ca
 have hj:=h.j
 by_cases c:p.more>0
 ·rw[aP c]
  exact⟨h.i,by show p.j+1+(p.more-1)=runEnd m p.i; omega,h.q,h.d,by show p.i<=p.j+1; have:=h.ij; omega⟩
 ·rw[bB c]
  have l:=rJ m p.i p.perturb
  have r:=iR l
  refine⟨l,?_,?_,h.d,bI _⟩
  ·show(leap m p.i p.perturb).1+(runEnd m (leap m p.i p.perturb).1-(leap m p.i p.perturb).1)=runEnd m (leap m p.i p.perturb).1
   omega
  ·show p.perturb / 32<2 ^ 64
   have:=h.q
   omega
theorem WP.il {m:Nat}:∀(n:Nat) {p:Probe},WP m p->WP m (il m n p)
 | 0,_,h=>h
 | n+1,_,h=>WP.il n h.Ca
theorem WP.le {m:Nat} {p:Probe} (h:WP m p):p.j<=m:=by
 have:=h.j
 have:=(iR h.i).1
 omega
theorem WP.more {m:Nat} {p:Probe} (h:WP m p):p.more<=9:=by
 have hj:=h.ij
 have:=h.j
 have:=(iR h.i).2.2
 omega
theorem vN (t:SetTable) (h:Int):WP t.mask (t.probeStart h):=by
 have l:bits h % (t.mask+1)<=t.mask:=Nat.le_of_lt_succ (Nat.mod_lt _ (Nat.succ_pos t.mask))
 have r:=iR l
 refine⟨l,?_,?_,rfl,bI _⟩
 ·show bits h % (t.mask+1)+(runEnd t.mask (bits h % (t.mask+1))-bits h % (t.mask+1))=runEnd t.mask (bits h % (t.mask+1))
  omega
 ·show bits h<2 ^ 64
  unfold bits
  have:=Gr h (show(0:Int)<2 ^ 64 by decide)
  have:=Gq h (show(2:Int) ^ 64≠0 by decide)
  omega
noncomputable def jmp (m i q:Nat):Probe:={ j:=i,more:=runEnd m i-i,i:=i,perturb:=q,dummy:=none }
theorem rO {m:Nat}:∀(n:Nat) {p:Probe},WP m p->p.more=n->il m (n+1) p=jmp m (leap m p.i p.perturb).1 (leap m p.i p.perturb).2
 | 0,p,h,e=>by
  show Ca m p=_
  unfold Ca
  rw[bB (by omega),h.d]; rfl
 | n+1,p,h,e=>by
  show il m (n+1) (Ca m p)=_
  have e2:Ca m p={ p with j:=p.j+1,more:=p.more-1 }:=by unfold Ca; rw[aP (by omega)]
  have:=rO n h.Ca (by rw[e2]; show p.more-1=n; omega)
  rw[this,e2]
noncomputable def uG (m:Nat):Nat->Nat->Nat->Nat×Nat
 | 0,i,q=>(i,q)
 | n+1,i,q=>uG m n (leap m i q).1 (leap m i q).2
theorem DR {m i q:Nat} (hi:i<=m) (hq:q<2 ^ 64):WP m (jmp m i q):=by
 have r:=iR hi
 exact⟨hi,by show i+(runEnd m i-i)=runEnd m i; omega,hq,rfl,bI _⟩
theorem Ut {m i q:Nat} (hi:i<=m):(jmp m i q).more<=9:=by
 have:=iR hi
 show runEnd m i-i<=9
 omega
theorem Nt {m:Nat}:∀(n i q:Nat),i<=m->q<2 ^ 64->∃k,k<=10*n/\il m k (jmp m i q)=jmp m (uG m n i q).1 (uG m n i q).2
 | 0,i,q,_,_=>⟨0,by omega,rfl⟩
 | n+1,i,q,hi,hq=>by
  have w:=DR hi hq
  have e:=rO _ w rfl
  have hm:=Ut (q:=q) hi
  have hq':(leap m i q).2<2 ^ 64:=by show q / 32<2 ^ 64; omega
  obtain⟨k,hk,ek⟩:=Nt n (leap m i q).1 (leap m i q).2 (rJ m i q) hq'
  refine⟨(jmp m i q).more+1+k,by omega,?_⟩
  rw[mK,e]
  exact ek
theorem DK (m:Nat):∀(a b i q:Nat),uG m (a+b) i q=uG m b (uG m a i q).1 (uG m a i q).2
 | 0,b,i,q=>by rw[GJ]; rfl
 | a+1,b,i,q=>by rw[show a+1+b=(a+b)+1 by omega]; exact DK m a b _ _
theorem Uh (m:Nat):∀(n i q:Nat),(uG m n i q).2=q / 32 ^ n
 | 0,i,q=>by show q=q / 1; omega
 | n+1,i,q=>by
  have:=Uh m n (leap m i q).1 (leap m i q).2
  show(uG m n (leap m i q).1 (leap m i q).2).2=_
  rw[this]
  show q / 32 / 32 ^ n=q / 32 ^ (n+1)
  rw[Nat.div_div_eq_div_mul,GF,Nat.mul_comm]
theorem xN (m:Nat):∀(n i:Nat),(uG m n i 0).1 % (m+1)=gR n i % (m+1)
 | 0,i=>rfl
 | n+1,i=>by
  have h:=xN m n (leap m i 0).1
  have e2:(leap m i 0).2=0:=rfl
  show(uG m n (leap m i 0).1 (leap m i 0).2).1 % (m+1)=gR n (5*i+1) % (m+1)
  rw[e2,h]
  have e1:(leap m i 0).1 % (m+1)=(5*i+1) % (m+1):=by
   show(i*5+1+0 / 32) % (m+1) % (m+1)=_
   rw[Nat.mod_mod,show i*5+1+0 / 32=5*i+1 by omega]
  exact U0 n e1
where
 U0 {N:Nat}:∀(n:Nat) {x y:Nat},x % N=y % N->gR n x % N=gR n y % N
  | 0,_,_,h=>h
  | n+1,x,y,h=>U0 n (by rw[Nat.add_mod,Nat.mul_mod,h,<- Nat.mul_mod,<- Nat.add_mod])
theorem xO (m:Nat):∀(n i q:Nat),i<=m->(uG m n i q).1<=m
 | 0,_,_,h=>h
 | n+1,i,q,_=>xO m n _ _ (rJ m i q)
theorem Vf {k m:Nat} (hm:m+1=2 ^ k) {p:Probe} (w:WP m p) {y:Nat} (hy:y<=m):∃n,n<10*(m+15)/\(il m n p).j=y:=by
 have e:=rO _ w rfl
 have hmo:=w.more
 have hq1:(leap m p.i p.perturb).2<2 ^ 64:=by have:=w.q; show p.perturb / 32<2 ^ 64; omega
 have l1:=rJ m p.i p.perturb
 generalize (leap m p.i p.perturb).1=i at e l1
 generalize (leap m p.i p.perturb).2=q at e hq1
 have hz:(uG m 13 i q).2=0:=by rw[Uh]; exact Nat.div_eq_of_lt (by omega)
 have l13:=xO m 13 i q l1
 obtain⟨r,hr,er⟩:=Ea k (uG m 13 i q).1 y
 rw[<- hm] at hr er
 obtain⟨n,hn,en⟩:=Nt (13+r) i q l1 hq1
 rw[DK,hz] at en
 have lr:=xO m r (uG m 13 i q).1 0 l13
 have ey:(uG m r (uG m 13 i q).1 0).1=y:=by
  have:=xN m r (uG m 13 i q).1
  rw[er,Ml (by omega),Ml (by omega)] at this
  exact this
 rw[ey] at en
 exact⟨p.more+1+n,by omega,by rw[mK,e,en]; rfl⟩
noncomputable def Fb (xs:Array Nat):Prop:=∀(a b x y:Nat),xs[a]?=some x->xs[b]?=some y->a<b->x<y
theorem Fb.inj {xs:Array Nat} (h:Fb xs) {a b x:Nat} (ha:xs[a]?=some x) (hb:xs[b]?=some x):a=b:=by
 rcases Nat.lt_trichotomy a b with z | z | z
 ·have:=h _ _ _ _ ha hb z; omega
 ·exact z
 ·have:=h _ _ _ _ hb ha z; omega
theorem yM {xs:Array Nat} (R:Fb xs) {j:Nat}:∀(fuel lo hi:Nat),hi-lo<=fuel->lo<=hi->hi<=xs.size->(∀i x,i<lo->xs[i]?=some x->x<j)->(∀i x,hi<=i->xs[i]?=some x->j<=x) ->
  lo<=SetTable.below.go xs j fuel lo hi/\SetTable.below.go xs j fuel lo hi<=hi/\(∀i x,i<SetTable.below.go xs j fuel lo hi->xs[i]?=some x->x<j)/\(∀i x,SetTable.below.go xs j fuel lo hi<=i->xs[i]?=some x->j<=x)
 | 0,lo,hi,hf,h1,_,h2,h3=>by
  unfold SetTable.below.go
  have:lo=hi:=by omega
  subst this
  exact⟨bI _,bI _,h2,h3⟩
 | fuel+1,lo,hi,hf,h1,hs,h2,h3=>by
  unfold SetTable.below.go
  by_cases c:lo<hi
  ·rw[aP c]
   have hm:(lo+hi) / 2<hi/\lo<=(lo+hi) / 2:=by omega
   generalize (lo+hi) / 2=mid at hm
   have hb:mid<xs.size:=by omega
   have eg:xs.getD mid j=xs[mid]:=by simp[Array.getD,hb]
   have em:xs[mid]?=some xs[mid]:=Gx hb
   dsimp only
   rw[eg]
   by_cases d:xs[mid]<j
   ·rw[aP d]
    obtain⟨g1,g2,g3,g4⟩:=yM R fuel (mid+1) hi (by omega) (by omega) hs (fun i x hi' e=>by
     rcases Nat.lt_or_ge i mid with z | z
     ·have:=R _ _ _ _ e em z; omega
     ·have:i=mid:=by omega
      subst this
      rw[em] at e; cases e; exact d) h3
    exact⟨by omega,g2,g3,g4⟩
   ·rw[bB d]
    obtain⟨g1,g2,g3,g4⟩:=yM R fuel lo mid (by omega) (by omega) (by omega) h2 (fun i x hi' e=>by
     rcases Nat.lt_or_ge mid i with z | z
     ·have:=R _ _ _ _ em e z; omega
     ·have:i=mid:=by omega
      subst this
      rw[em] at e; cases e; omega)
    exact⟨g1,by omega,g3,g4⟩
  ·rw[bB c]
   have:lo=hi:=by omega
   subst this
   exact⟨bI _,bI _,h2,h3⟩
theorem Ii {xs:Array Nat} (R:Fb xs) (j:Nat):SetTable.below xs j<=xs.size/\(∀i x,i<SetTable.below xs j->xs[i]?=some x->x<j)/\(∀i x,SetTable.below xs j<=i->xs[i]?=some x->j<=x):=by
 have:=yM R (j:=j) xs.size 0 xs.size (by omega) (by omega) (bI _) (fun i x h=>by omega) (fun i x h e=>by
  have:=(zg.mp e).1; omega)
 exact⟨this.2.1,this.2.2.1,this.2.2.2⟩
theorem Af {t:SetTable} (R:Fb t.place) {i j:Nat} (h:t.place[i]?=some j):t.slot j=.live i:=by
 obtain⟨_,h2,h3⟩:=Ii R j
 have e:SetTable.below t.place j=i:=by
  rcases Nat.lt_trichotomy (SetTable.below t.place j) i with z | z | z
  ·have hb:SetTable.below t.place j<t.place.size:=by have:=(zg.mp h).1; omega
   have:=R _ _ _ _ (Gx hb) h z
   have:=h3 _ _ (bI _) (Gx hb)
   omega
  ·exact z
  ·have:=h2 _ _ z h; omega
 unfold SetTable.slot
 dsimp only
 rw[e,h]
 simp
theorem vU {t:SetTable} (hd:t.dummies = #[]) {j:Nat} (h:∀i:Nat,t.place[i]?≠some j):t.slot j=.empty:=by
 unfold SetTable.slot
 dsimp only
 rw[bB (by simpa using h _),hd]
 rfl
theorem Xn {t:SetTable} (R:Fb t.place) (hd:t.dummies = #[]) (j:Nat):(∃i:Nat,t.place[i]?=some j/\t.slot j=.live i)\/((∀i:Nat,t.place[i]?≠some j)/\t.slot j=.empty):=by
 by_cases c:∃i:Nat,t.place[i]?=some j
 ·obtain⟨i,h⟩:=c
  exact .inl ⟨i,h,Af R h⟩
 ·have:∀i:Nat,t.place[i]?≠some j:=fun i e=>c ⟨i,e⟩
  exact .inr ⟨this,vU hd this⟩
theorem xg {t:SetTable} {hashAt:Nat->Int} {h:Int}:∀(n fuel:Nat) (p:Probe),n<fuel->(∀n',n'<n->∃i,t.slot (il t.mask n' p).j=.live i/\(hashAt i==h)=false) ->
  SetTable.probe.go t hashAt h fuel p=SetTable.probe.go t hashAt h (fuel-n) (il t.mask n p)
 | 0,fuel,p,_,_=>rfl
 | n+1,0,p,hf,_=>by omega
 | n+1,fuel+1,p,hf,hl=>by
  obtain⟨i,e1,e2⟩:=hl 0 (by omega)
  have e1:t.slot p.j=.live i:=e1
  have:=xg n fuel (Ca t.mask p) (by omega) fun n' hn'=>hl (n'+1) (by omega)
  rw[show fuel+1-(n+1)=fuel-n by omega]
  show SetTable.probe.go t hashAt h (fuel+1) p=SetTable.probe.go t hashAt h (fuel-n) (il t.mask n (Ca t.mask p))
  rw[<- this]
  conv=>lhs; unfold SetTable.probe.go
  rw[e1]
  dsimp only
  rw[e2]
  rfl
theorem Hh {t:SetTable} {hashAt:Nat->Int} {h:Int} {p:Probe} {n:Nat} (w:WP t.mask p) (hn:n<10*turns t.mask) (hl:∀n',n'<n->∃i,t.slot (il t.mask n' p).j=.live i/\(hashAt i==h)=false) (he:t.slot (il t.mask n p).j=.empty) :
  t.probe hashAt h p=some (.empty (il t.mask n p).j none):=by
 unfold SetTable.probe
 rw[xg n _ p hn hl]
 obtain⟨f,hf⟩:∃f,10*turns t.mask-n=f+1:=⟨10*turns t.mask-n-1,by omega⟩
 rw[hf]
 unfold SetTable.probe.go
 rw[he]
 dsimp only
 rw[(w.il n).d]
theorem JF {t:SetTable} {hashAt:Nat->Int} {h:Int} {p:Probe} {n i:Nat} (hn:n<10*turns t.mask) (hl:∀n',n'<n->∃i,t.slot (il t.mask n' p).j=.live i/\(hashAt i==h)=false) (he:t.slot (il t.mask n p).j=.live i) (hh:hashAt i=h) :
  t.probe hashAt h p=some (.candidate (il t.mask n p).j i (il t.mask (n+1) p)):=by
 unfold SetTable.probe
 rw[xg n _ p hn hl]
 obtain⟨f,hf⟩:∃f,10*turns t.mask-n=f+1:=⟨10*turns t.mask-n-1,by omega⟩
 rw[hf]
 unfold SetTable.probe.go
 rw[he]
 dsimp only
 rw[hh,Uv]
 simp[abe]
end L2
namespace L2
open PySem PySem.Spec PyProof.Rows
open SetTable (Probe runEnd leap turns bits)
theorem Hy {P:Nat->Prop}:∀(n:Nat),P n->∃m,m<=n/\P m/\∀k,k<m->¬P k:=fun n h=>by
 induction n using Nat.strongRecOn with
 | _ n ih=>
  by_cases c:∃k,k<n/\P k
  ·obtain⟨k,hk,pk⟩:=c
   obtain⟨m,h1,h2,h3⟩:=ih k hk pk
   exact⟨m,by omega,h2,h3⟩
  ·exact⟨n,bI _,h,fun k hk pk=>c ⟨k,hk,pk⟩⟩
noncomputable def way (m:Nat) (h:Int) (n:Nat):Nat:=(il m n (jmp m (bits h % (m+1)) (bits h))).j
theorem Ae (t:SetTable) (h:Int):t.probeStart h=jmp t.mask (bits h % (t.mask+1)) (bits h):=rfl
noncomputable def Path (m:Nat) (Qs:Nat->Prop) (h:Int) (j:Nat):Prop:=∃n,way m h n=j/\∀n',n'<n->Qs (way m h n')
theorem Path.mono {m:Nat} {Qs acZ:Nat->Prop} {h:Int} {j:Nat} (p:Path m Qs h j) (k:∀y,Qs y->acZ y):Path m acZ h j:=by
 obtain⟨n,e,z⟩:=p
 exact⟨n,e,fun n' hn=>k _ (z n' hn)⟩
structure Q7 (t:SetTable) (hs:List Int):Prop where
 dm:t.dummies = #[]
 ri:Fb t.place
 sz:t.place.size=hs.length
 le:∀i j:Nat,t.place[i]?=some j->j<=t.mask
 pw:∃k,3<=k/\k<=12/\t.mask+1=2 ^ k
 fl:5*hs.length<3*t.mask
 pa:∀(i:Nat) (h:Int) (j:Nat),hs[i]?=some h->t.place[i]?=some j->Path t.mask (fun y=>∃i:Nat,t.place[i]?=some y) h j
theorem Q7.odd {t:SetTable} {hs:List Int} (T:Q7 t hs):t.gaveWay=false:=by
 obtain⟨k,h1,_,h2⟩:=T.pw
 unfold SetTable.gaveWay
 obtain⟨k',rfl⟩:∃k',k=k'+1:=⟨k-1,by omega⟩
 rw[GF] at h2
 have:t.mask % 2=1:=by omega
 rw[this]; rfl
theorem Q7.fits {t:SetTable} {hs:List Int} (T:Q7 t hs):t.fits hs.length=true:=by
 have h1:=T.sz
 have h2:=T.fl
 simp only[SetTable.fits,SetTable.fill,T.dm,h1,wM,beq_iff_eq,decide_eq_true_eq]
 refine⟨trivial,?_⟩
 show hs.length+0<=t.mask
 omega
theorem Pj {xs:Array Nat} (R:Fb xs) {m:Nat} (h:xs.size<=m):∃y,y<=m/\∀i:Nat,xs[i]?≠some y:=by
 by_cases c:∃y,y<=m/\∀i:Nat,xs[i]?≠some y
 ·exact c
 ·exfalso
  have all:∀y,y<=m->∃i:Nat,xs[i]?=some y:=fun y hy=>by
   by_cases d:∃i:Nat,xs[i]?=some y
   ·exact d
   ·exact absurd ⟨y,hy,fun i e=>d ⟨i,e⟩⟩ c
  have up:∀y,y<=m->∃i:Nat,y<=i/\xs[i]?=some y:=by
   intro y
   induction y with
   | zero=>intro hy; obtain⟨i,hi⟩:=all 0 hy; exact⟨i,e_ _,hi⟩
   | succ y ih=>
    intro hy
    obtain⟨i,h1,h2⟩:=ih (by omega)
    obtain⟨i',h3⟩:=all (y+1) hy
    refine⟨i',?_,h3⟩
    rcases Nat.lt_or_ge i i' with z | z
    ·omega
    ·rcases Nat.lt_or_eq_of_le z with z | z
     ·have:=R _ _ _ _ h3 h2 z; omega
     ·subst z; rw[h2] at h3; cases h3
  obtain⟨i,h1,h2⟩:=up m (bI _)
  have:=(zg.mp h2).1
  omega
theorem Q7.first {t:SetTable} {hs:List Int} (T:Q7 t hs) {p:Probe} (w:WP t.mask p):∃M,M<10*turns t.mask/\(∀n,n<M->∃i:Nat,t.place[i]?=some (il t.mask n p).j/\t.slot (il t.mask n p).j=.live i)/\(∀i:Nat,t.place[i]?≠some (il t.mask M p).j)/\t.slot (il t.mask M p).j=.empty:=by
 obtain⟨k,_,_,hk⟩:=T.pw
 have h2:=T.fl
 obtain⟨y,hy,hn⟩:=Pj T.ri (m:=t.mask) (by rw[T.sz]; omega)
 obtain⟨n,n1,n2⟩:=Vf hk w hy
 obtain⟨M,m1,m2,m3⟩:=Hy (P:=fun n=>∀i:Nat,t.place[i]?≠some (il t.mask n p).j) n (by rw[n2]; exact hn)
 refine⟨M,by unfold turns; omega,fun n hn'=>?_,m2,vU T.dm m2⟩
 rcases Xn T.ri T.dm (il t.mask n p).j with⟨i,z⟩ | ⟨z,_⟩
 ·exact⟨i,z⟩
 ·exact absurd z (m3 n hn')
theorem oH {xs:Array Nat} {p x i:Nat} (hp:p<=xs.size):(SetTable.insertAt xs p x)[i]?=if i<p then xs[i]? else if i=p then some x else xs[i-1]?:=by
 rw[<- Gu,SetTable.toList_insertAt,<- Gu,<- Gu]
 have hl:(xs.toList.take p).length=p:=by rw[jG,nj]; omega
 by_cases c:i<p
 ·rw[aP c,Gy (by omega),List.getElem?_take,aP c]
 ·rw[bB c,zj (by omega),hl]
  by_cases d:i=p
  ·rw[aP d,d,yW]; rfl
  ·rw[bB d]
   obtain⟨q,hq⟩:∃q,i-p=q+1:=⟨i-p-1,by omega⟩
   rw[hq,Tc,Ha]
   congr 1
   omega
theorem Uy {α:Type} {xs:List α} {p i:Nat} {x:α} (hp:p<=xs.length):(xs.take p++x::xs.drop p)[i]?=if i<p then xs[i]? else if i=p then some x else xs[i-1]?:=by
 have hl:(xs.take p).length=p:=by rw[jG]; omega
 by_cases c:i<p
 ·rw[aP c,Gy (by omega),List.getElem?_take,aP c]
 ·rw[bB c,zj (by omega),hl]
  by_cases d:i=p
  ·rw[aP d,d,yW]; rfl
  ·rw[bB d]
   obtain⟨q,hq⟩:∃q,i-p=q+1:=⟨i-p-1,by omega⟩
   rw[hq,Tc,Ha]
   congr 1
   omega
structure TbJ (t:SetTable) (hs:List Int):Prop where
 dm:t.dummies = #[]
 ri:Fb t.place
 sz:t.place.size=hs.length
 le:∀i j:Nat,t.place[i]?=some j->j<=t.mask
 pw:∃k,3<=k/\k<=12/\t.mask+1=2 ^ k
 fl:hs.length<=t.mask
 pa:∀(i:Nat) (h:Int) (j:Nat),hs[i]?=some h->t.place[i]?=some j->Path t.mask (fun y=>∃i:Nat,t.place[i]?=some y) h j
theorem aad {t:SetTable} {j:Nat} (hd:t.dummies = #[]):t.put j=({ t with place:=SetTable.insertAt t.place (SetTable.below t.place j) j,dummies:=#[] },SetTable.below t.place j):=by
 unfold SetTable.put
 rw[hd]; rfl
theorem Q7.put {t:SetTable} {hs:List Int} (T:Q7 t hs) {h:Int} {j:Nat} (hj:j<=t.mask) (hn:∀i:Nat,t.place[i]?≠some j) (hp:Path t.mask (fun y=>∃i:Nat,t.place[i]?=some y) h j) :
  TbJ (t.put j).1 (hs.take (t.put j).2++h::hs.drop (t.put j).2)/\(t.put j).2<=hs.length/\(t.put j).1.mask=t.mask/\(t.put j).1.dummies = #[]:=by
 rw[aad T.dm]
 dsimp only
 obtain⟨b1,b2,b3⟩:=Ii T.ri j
 generalize SetTable.below t.place j=p at b1 b2 b3
 have hpl:p<=hs.length:=by rw[<- T.sz]; exact b1
 have fl:=T.fl
 have Qs:∀y,(∃i:Nat,t.place[i]?=some y)->∃i:Nat,(SetTable.insertAt t.place p j)[i]?=some y:=fun y ⟨i,e⟩=>by
  by_cases c:i<p
  ·exact⟨i,by rw[oH b1,aP c]; exact e⟩
  ·exact⟨i+1,by rw[oH b1,bB (by omega),bB (by omega)]; exact e⟩
 refine⟨⟨rfl,?_,?_,?_,T.pw,?_,?_⟩,hpl,rfl,rfl⟩
 ·intro a b x y ha hb hab
  rw[oH b1] at ha hb
  by_cases c1:a<p
  ·rw[aP c1] at ha
   by_cases c2:b<p
   ·rw[aP c2] at hb; exact T.ri _ _ _ _ ha hb hab
   ·rw[bB c2] at hb
    have:=b2 _ _ c1 ha
    by_cases c3:b=p
    ·rw[aP c3] at hb; cases hb; exact this
    ·rw[bB c3] at hb
     have:=b3 _ _ (by omega) hb
     omega
  ·rw[bB c1] at ha
   rw[bB (by omega),bB (by omega)] at hb
   by_cases c3:a=p
   ·rw[aP c3] at ha; cases ha
    have h1:=b3 _ _ (by omega) hb
    rcases Nat.lt_or_eq_of_le h1 with z | z
    ·exact z
    ·subst z; exact absurd hb (hn _)
   ·rw[bB c3] at ha
    exact T.ri _ _ _ _ ha hb (by omega)
 ·rw[<- nj,SetTable.toList_insertAt]
  simp only[gH,jG,jF,wO,nj,T.sz]
 ·intro i y hy
  rw[oH b1] at hy
  by_cases c1:i<p
  ·rw[aP c1] at hy; exact T.le _ _ hy
  ·rw[bB c1] at hy
   by_cases c3:i=p
   ·rw[aP c3] at hy; cases hy; exact hj
   ·rw[bB c3] at hy; exact T.le _ _ hy
 ·simp only[gH,jG,jF,wO]
  obtain⟨k,k1,_,k2⟩:=T.pw
  have:2 ^ 3<=2 ^ k:=Py (by decide) k1
  show min p hs.length+(hs.length-p+1)<=t.mask
  omega
 ·intro i g y hg hy
  rw[Uy hpl] at hg
  rw[oH b1] at hy
  by_cases c1:i<p
  ·rw[aP c1] at hg hy; exact(T.pa _ _ _ hg hy).mono Qs
  ·rw[bB c1] at hg hy
   by_cases c3:i=p
   ·rw[aP c3] at hg hy; cases hg; cases hy; exact hp.mono Qs
   ·rw[bB c3] at hg hy; exact(T.pa _ _ _ hg hy).mono Qs
theorem TbJ.ti {t:SetTable} {hs:List Int} (T:TbJ t hs) (h:t.tooFull=false):Q7 t hs:=by
 refine⟨T.dm,T.ri,T.sz,T.le,T.pw,?_,T.pa⟩
 have:¬(t.fill*5≥t.mask*3):=by simpa[SetTable.tooFull] using h
 have e:t.fill=hs.length:=by
  show t.place.size+t.dummies.size=hs.length
  rw[T.dm,T.sz]; rfl
 rw[e] at this
 omega
end L2
namespace L2
open PySem PySem.Spec PyProof.Rows
open SetTable (Probe runEnd leap turns bits)
theorem xU {m:Nat}:∀(n:Nat) {p:Probe},n<=p.more->(il m n p).j=p.j+n
 | 0,p,_=>rfl
 | n+1,p,h=>by
  have e2:Ca m p={ p with j:=p.j+1,more:=p.more-1 }:=by unfold Ca; rw[aP (by omega)]
  have:=xU (m:=m) n (p:=Ca m p) (by rw[e2]; show n<=p.more-1; omega)
  show(il m n (Ca m p)).j=p.j+(n+1)
  rw[this,e2]
  show p.j+1+n=p.j+(n+1)
  omega
theorem Ui {k m:Nat} (hm:m+1=2 ^ k) {i q y:Nat} (hi:i<=m) (hq:q<2 ^ 64) (hy:y<=m):∃L,L<turns m/\(uG m L i q).1=y:=by
 have hz:(uG m 13 i q).2=0:=by rw[Uh]; exact Nat.div_eq_of_lt (by omega)
 have l13:=xO m 13 i q hi
 obtain⟨r,hr,er⟩:=Ea k (uG m 13 i q).1 y
 rw[<- hm] at hr er
 have lr:=xO m r (uG m 13 i q).1 0 l13
 have ey:(uG m r (uG m 13 i q).1 0).1=y:=by
  have:=xN m r (uG m 13 i q).1
  rw[er,Ml (by omega),Ml (by omega)] at this
  exact this
 exact⟨13+r,by unfold turns; omega,by rw[DK,hz]; exact ey⟩
theorem N5 {m:Nat} {ow:Array (Option Nat)}:∀(fuel i q:Nat),i<=m->q<2 ^ 64->(∃L,L<fuel/\ow.getD (uG m L i q).1 (some 0)=none) ->
  ∃n,SetTable.layClean.free m ow fuel i q=some (il m n (jmp m i q)).j/\ow.getD (il m n (jmp m i q)).j (some 0)=none/\∀n',n'<n->ow.getD (il m n' (jmp m i q)).j (some 0)≠none
 | 0,i,q,_,_,h=>by obtain⟨L,h,_⟩:=h; omega
 | fuel+1,i,q,hi,hq,h=>by
  unfold SetTable.layClean.free
  have r:=iR hi
  have hmo:(jmp m i q).more=runEnd m i-i:=rfl
  have hj:(jmp m i q).j=i:=rfl
  cases ef:(List.range (runEnd m i+1-i)).find? fun k=>(ow.getD (i+k) (some 0)).isNone with
  | some k=>
   obtain⟨k1,l1,l2,e1,e2⟩:=List.find?_eq_some_iff_append.mp ef
   have hk:k<runEnd m i+1-i:=Di.mp (by rw[e1]; simp)
   refine⟨k,?_,?_,fun n' hn'=>?_⟩
   ·rw[xU k (by omega)]; rfl
   ·rw[xU k (by omega),hj]; exact Option.isNone_iff_eq_none.mp k1
   ·rw[xU n' (by omega),hj]
    intro z
    have hm1:n'∈l1:=by
     have hmem:n'∈List.range (runEnd m i+1-i):=Di.mpr (by omega)
     have hpw:=List.pairwise_lt_range (n:=runEnd m i+1-i)
     rw[e1] at hmem hpw
     rcases m_.mp hmem with z | z
     ·exact z
     ·exfalso
      rcases bU.mp z with z | z
      ·omega
      ·have:=(List.pairwise_cons.mp (List.pairwise_append.mp hpw).2.1).1 _ z
       omega
    have:=e2 _ hm1
    rw[z] at this
    exact absurd this (by decide)
  | none=>
   have hno:∀n',n'<=(jmp m i q).more->ow.getD (il m n' (jmp m i q)).j (some 0)≠none:=fun n' hn' z=>by
    rw[xU n' hn',hj] at z
    have:=List.find?_eq_none.mp ef n' (Di.mpr (by omega))
    rw[z] at this
    exact absurd rfl this
   obtain⟨L,hL,eL⟩:=h
   have L0:L≠0:=fun z=>by
    subst z
    exact hno 0 (e_ _) eL
   obtain⟨L',rfl⟩:∃L',L=L'+1:=⟨L-1,by omega⟩
   have hq':(leap m i q).2<2 ^ 64:=by show q / 32<2 ^ 64; omega
   obtain⟨n,h1,h2,h3⟩:=N5 fuel (leap m i q).1 (leap m i q).2 (rJ m i q) hq' ⟨L',by omega,eL⟩
   have e:=rO _ (DR hi hq) rfl
   have es:∀n',il m ((jmp m i q).more+1+n') (jmp m i q)=il m n' (jmp m (leap m i q).1 (leap m i q).2):=fun n'=>by rw[mK,e]; rfl
   refine⟨(jmp m i q).more+1+n,?_,?_,fun n' hn'=>?_⟩
   ·rw[es]; exact h1
   ·rw[es]; exact h2
   ·by_cases c:n'<=(jmp m i q).more
    ·exact hno n' c
    ·obtain⟨d,hd⟩:∃d,n'=(jmp m i q).more+1+d:=⟨n'-((jmp m i q).more+1),by omega⟩
     rw[hd,es]
     exact h3 d (by omega)
structure OW (m:Nat) (ow:Array (Option Nat)) (hs:List Int):Prop where
 sz:ow.size=m+1
 ct:ow.toList.countP Option.isSome=hs.length
 at_:∀(l:Nat) (h:Int),hs[l]?=some h->∃j,j<=m/\ow[j]?=some (some l)/\Path m (fun y=>∃l,ow[y]?=some (some l)) h j
 lt:∀j l:Nat,ow[j]?=some (some l)->l<hs.length
 inj:∀j j' l:Nat,ow[j]?=some (some l)->ow[j']?=some (some l)->j=j'
theorem getD_none {ow:Array (Option Nat)} {j:Nat} (h:ow.getD j (some 0)=none):ow[j]?=some none:=by
 rw[PL] at h
 cases e:ow[j]? with
 | none=>rw[e] at h; cases h
 | some o=>rw[e] at h; exact nZ some h
theorem OW.push {k m:Nat} (hm:m+1=2 ^ k) {ow:Array (Option Nat)} {hs:List Int} (W:OW m ow hs) (h:Int) (hl:hs.length<=m) :
  ∃j,SetTable.layClean.free m ow (turns m) (bits h % (m+1)) (bits h)=some j/\OW m (ow.setIfInBounds j (some hs.length)) (hs++[h]):=by
 have hb:bits h<2 ^ 64:=by
  unfold bits
  have:=Gr h (show(0:Int)<2 ^ 64 by decide)
  have:=Gq h (show(2:Int) ^ 64≠0 by decide)
  omega
 have hi:bits h % (m+1)<=m:=Nat.le_of_lt_succ (Nat.mod_lt _ (Nat.succ_pos m))
 obtain⟨y,hy,ey⟩:∃y,y<=m/\ow.getD y (some 0)=none:=by
  by_cases c:∃y,y<=m/\ow.getD y (some 0)=none
  ·exact c
  ·exfalso
   have:ow.toList.countP Option.isSome=ow.toList.length:=List.countP_eq_length.mpr fun o ho=>by
    obtain⟨i,hi⟩:=Gw.mp ho
    cases o with
    | some _=>rfl
    | none=>
     have hlt:i<ow.toList.length:=(fj.mp hi).1
     rw[nj,W.sz] at hlt
     rw[Gu] at hi
     exact absurd ⟨i,by omega,by rw[PL,hi]; rfl⟩ c
   have h2:ow.toList.length=m+1:=by rw[nj,W.sz]
   have h3:=W.ct
   omega
 obtain⟨L,hL,eL⟩:=Ui hm hi hb hy
 obtain⟨n,f1,f2,f3⟩:=N5 (ow:=ow) (turns m) _ _ hi hb ⟨L,hL,by rw[eL]; exact ey⟩
 have wj:(il m n (jmp m (bits h % (m+1)) (bits h))).j<=m:=((DR hi hb).il n).le
 have f3:∀n',n'<n->ow.getD (way m h n') (some 0)≠none:=f3
 have ej:(il m n (jmp m (bits h % (m+1)) (bits h))).j=way m h n:=rfl
 rw[ej] at f1 f2 wj
 have g2:=getD_none f2
 refine⟨_,f1,?_⟩
 generalize hj:way m h n=j at f1 f2 wj g2
 have hjs:j<ow.size:=by rw[W.sz]; omega
 have get:∀y:Nat,(ow.setIfInBounds j (some hs.length))[y]?=if y=j then some (some hs.length) else ow[y]?:=fun y=>by
  rw[Array.getElem?_setIfInBounds]
  by_cases c:j=y
  ·subst c; simp[hjs]
  ·rw[bB c,bB (fun z=>c z.symm)]
 have Qs:∀y:Nat,(∃l,ow[y]?=some (some l))->∃l,(ow.setIfInBounds j (some hs.length))[y]?=some (some l):=fun y ⟨l,e⟩=>by
  rw[get]
  by_cases c:y=j
  ·exact⟨_,aP c⟩
  ·exact⟨l,by rw[bB c]; exact e⟩
 refine⟨by rw[Array.size_setIfInBounds]; exact W.sz,?_,fun l h' hl'=>?_,fun y l hy'=>?_,fun y y' l h1 h2=>?_⟩
 ·rw[Array.toList_setIfInBounds,List.countP_set (by rw[nj]; exact hjs),W.ct,gH]
  have e0:ow.toList[j]'(by rw[nj]; exact hjs)=none:=by
   have:=Gx hjs
   rw[g2] at this
   simpa using this.symm
  rw[e0]
  simp
 ·by_cases c:l<hs.length
  ·rw[Gy c] at hl'
   obtain⟨y',h1,h2,h3⟩:=W.at_ _ _ hl'
   refine⟨y',h1,?_,h3.mono Qs⟩
   rw[get,bB (fun z=>by rw[z,g2] at h2; cases h2)]
   exact h2
  ·have hl2:l<(hs++[h]).length:=(fj.mp hl').1
   rw[gH] at hl2
   have e:l=hs.length:=by simp at hl2; omega
   subst e
   rw[zj (bI _),yW] at hl'
   cases hl'
   refine⟨j,wj,by rw[get,aP rfl],n,hj,fun n' hn'=>?_⟩
   refine Qs _ ?_
   have z:=f3 n' hn'
   cases e:ow[way m h n']? with
   | none=>
    exfalso
    have:way m h n'<=m:=((DR hi hb).il n').le
    have:=Array.getElem?_eq_none_iff.mp e
    rw[W.sz] at this
    omega
   | some o=>
    cases o with
    | none=>exact absurd (by rw[PL,e]; rfl) z
    | some l=>exact⟨l,rfl⟩
 ·rw[get] at hy'
  rw[gH]
  by_cases c:y=j
  ·rw[aP c] at hy'; cases hy'; simp
  ·rw[bB c] at hy'; have:=W.lt _ _ hy'; simp; omega
 ·rw[get] at h1 h2
  by_cases c1:y=j
  ·rw[aP c1] at h1; cases h1
   by_cases c2:y'=j
   ·rw[c1,c2]
   ·rw[bB c2] at h2; have:=W.lt _ _ h2; omega
  ·rw[bB c1] at h1
   by_cases c2:y'=j
   ·rw[aP c2] at h2; cases h2; have:=W.lt _ _ h1; omega
   ·rw[bB c2] at h2; exact W.inj _ _ _ h1 h2
noncomputable def vq (m:Nat) (acc:Option (Array (Option Nat)×Nat)) (h:Int):Option (Array (Option Nat)×Nat):=do
  let (owner,k) <- acc
  let j <- SetTable.layClean.free m owner (turns m) (bits h % (m+1)) (bits h)
  pure (owner.setIfInBounds j (some k),k+1)
theorem Hz {k m:Nat} (hm:m+1=2 ^ k):∀(rest hs:List Int) (ow:Array (Option Nat)),OW m ow hs->(hs++rest).length<=m+1 ->
  ∃ow',rest.foldl (vq m) (some (ow,hs.length))=some (ow',(hs++rest).length)/\OW m ow' (hs++rest)
 | [],hs,ow,W,_=>⟨ow,by rw[lJ]; rfl,by rw[lJ]; exact W⟩
 | h::rest,hs,ow,W,hl=>by
  rw[gH,jF] at hl
  obtain⟨j,f,W'⟩:=W.push hm h (by omega)
  obtain⟨ow',e,W''⟩:=Hz hm rest (hs++[h]) _ W' (by simp; omega)
  rw[wR] at e W''
  refine⟨ow',?_,W''⟩
  rw[List.foldl_cons]
  have e1:vq m (some (ow,hs.length)) h=some (ow.setIfInBounds j (some hs.length),(hs++[h]).length):=by
   show(do let j <- SetTable.layClean.free m ow (turns m) (bits h % (m+1)) (bits h); pure (ow.setIfInBounds j (some hs.length),hs.length+1))=_
   rw[f,gH]; rfl
  rw[e1]
  exact e
theorem OW.nil (m:Nat):OW m (Array.replicate (m+1) none) []:=by
 have get:∀(j:Nat) (o:Option Nat),(Array.replicate (m+1) (none:Option Nat))[j]?=some o->o=none:=fun j o h=>by
  rw[Array.getElem?_replicate] at h
  split at h
  ·cases h; rfl
  ·cases h
 exact⟨by simp,by simp,fun l h z=>by simp at z,fun j l h=>(by have:=get _ _ h; cases this),fun j j' l h _=>(by have:=get _ _ h; cases this)⟩
theorem HB {k m:Nat} (hm:m+1=2 ^ k) (hs:Array Int) (hl:hs.size<=m+1):∃ow,SetTable.layClean m hs=some ow/\OW m ow hs.toList:=by
 obtain⟨ow,e,W⟩:=Hz hm hs.toList [] _ (OW.nil m) (by simpa using hl)
 refine⟨ow,?_,by simpa using W⟩
 have e2:SetTable.layClean m hs=(hs.foldl (vq m) (some (Array.replicate (m+1) none,0))).map (·.1):=rfl
 rw[e2,<- Array.foldl_toList]
 have e3:List.foldl (vq m) (some (Array.replicate (m+1) none,0)) hs.toList=some (ow,([]++hs.toList).length):=e
 rw[e3]; rfl
theorem U8 {α β:Type} {f:α->Option β}:∀{l:List α} (i:Nat),(∀x∈l,(f x).isSome=true)->(l.filterMap f)[i]?=l[i]?.bind f
 | [],i,_=>by simp
 | x::l,i,h=>by
  obtain⟨y,hy⟩:=zf.mp (h x (by simp))
  rw[List.filterMap_cons_some hy]
  cases i with
  | zero=>simp[hy]
  | succ i=>rw[Tc,Tc]; exact U8 i fun z hz=>h z (by simp[hz])
theorem J9 {α β:Type} {f:α->Option β}:∀{l:List α},(∀x∈l,(f x).isSome=true)->(l.filterMap f).length=l.length
 | [],_=>rfl
 | x::l,h=>by
  obtain⟨y,hy⟩:=zf.mp (h x (by simp))
  rw[List.filterMap_cons_some hy,jF,jF,J9 fun z hz=>h z (by simp[hz])]
noncomputable def fB (m:Nat) (ow:Array (Option Nat)):List (Nat×Nat):=(List.range (m+1)).filterMap fun j=>(ow.getD j none).map (j,·)
theorem jN {m:Nat} {ow:Array (Option Nat)} {j l:Nat} (hs:ow.size=m+1):(j,l)∈fB m ow↔ow[j]?=some (some l):=by
 unfold fB
 rw[List.mem_filterMap]
 constructor
 ·rintro⟨y,h1,h2⟩
  obtain⟨l',h3,h4⟩:=kJ.mp h2
  cases h4
  rw[PL] at h3
  cases e:ow[j]? with
  | none=>rw[e] at h3; cases h3
  | some o=>rw[e] at h3; exact nZ some h3
 ·intro h
  have:=(zg.mp h).1
  exact⟨j,Di.mpr (by omega),by rw[PL,h]; rfl⟩
theorem Nf {m:Nat} {ow:Array (Option Nat)}:(fB m ow).Pairwise fun p q=>p.1<q.1:=by
 unfold fB
 refine List.Pairwise.filterMap _ ?_ List.pairwise_lt_range
 intro a a' h b hb b' hb'
 obtain⟨_,_,rfl⟩:=kJ.mp hb
 obtain⟨_,_,rfl⟩:=kJ.mp hb'
 exact h
theorem Uk {m:Nat} {ow:Array (Option Nat)} {hs:List Int} (W:OW m ow hs):(fB m ow).length=hs.length:=by
 unfold fB
 rw[List.length_filterMap_eq_countP,<- W.ct]
 have e:ow.toList=(List.range (m+1)).map fun j=>ow.getD j none:=by
  apply List.ext_getElem?
  intro i
  rw[Gu,fQ]
  by_cases c:i<m+1
  ·rw[Ms c]
   have hb:i<ow.size:=by rw[W.sz]; exact c
   rw[A_,PL,Gx hb]; rfl
  ·rw[S_ (by simp; omega),Array.getElem?_eq_none (by rw[W.sz]; omega)]; rfl
 rw[e,List.countP_map]
 congr 1
 funext j
 simp
theorem Xv {k m:Nat} (h3:3<=k) (h12:k<=12) (hm:m+1=2 ^ k) {fi mo:Nat} {le pl:Bool} (hs:Array Int) (hl:5*hs.size<3*m) :
  ∃t order,SetTable.laid m fi mo le pl hs=some (t,order)/\order.toList.length=hs.size/\(∀l∈order.toList,l<hs.size)/\(∀l,l<hs.size->l∈order.toList)/\order.toList.Nodup/\Q7 t (order.toList.filterMap (hs.toList[·]?)):=by
 obtain⟨ow,e,W⟩:=HB hm hs (by omega)
 have e1:SetTable.laid m fi mo le pl hs=some ({ mask:=m,place:=((fB m ow).map (·.1)).toArray,dummies:=#[],finger:=fi,led:=le,moves:=mo,plain:=pl },((fB m ow).map (·.2)).toArray):=by
  unfold SetTable.laid
  rw[e]; rfl
 have hlen:=Uk W
 rw[nj] at hlen
 have lt:∀l∈(fB m ow).map (·.2),l<hs.size:=fun l hl=>by
  obtain⟨⟨j,l'⟩,h1,h2⟩:=iK.mp hl
  cases h2
  have:=W.lt _ _ ((jN W.sz).mp h1)
  simpa using this
 have all:∀l,l<hs.size->l∈(fB m ow).map (·.2):=fun l hl=>by
  obtain⟨j,h1,h2,_⟩:=W.at_ l hs[l] (by simp[hl])
  exact iK.mpr ⟨(j,l),(jN W.sz).mpr h2,rfl⟩
 have some_:∀l∈(fB m ow).map (·.2),(hs.toList[l]?).isSome=true:=fun l hl=>by
  have:=lt l hl
  rw[fD (by simpa using this)]; rfl
 have ndp:((fB m ow).map (·.2)).Nodup:=by
  rw[List.Nodup,List.pairwise_map,Tn]
  intro a b ha hb hab z
  have:=Tn.mp (Nf (m:=m) (ow:=ow)) a b ha hb hab
  have g1:ow[(fB m ow)[a].1]?=some (some (fB m ow)[a].2):=(jN W.sz).mp (Jx ha)
  have g2:ow[(fB m ow)[b].1]?=some (some (fB m ow)[b].2):=(jN W.sz).mp (Jx hb)
  rw[z] at g1
  have:=W.inj _ _ _ g1 g2
  omega
 refine⟨_,_,e1,?_,lt,all,ndp,?_⟩
 ·show((fB m ow).map (·.2)).length=hs.size
  rw[bM]; exact hlen
 ·have aeM:((fB m ow).map (·.1)).length=hs.size:=by rw[bM]; exact hlen
  have acQ:(((fB m ow).map (·.2)).filterMap (hs.toList[·]?)).length=hs.size:=by rw[J9 some_,bM]; exact hlen
  have W0:∀i j:Nat,(((fB m ow).map (·.1)).toArray)[i]?=some j->∃l,(fB m ow)[i]?=some (j,l):=fun i j h=>by
   rw[List.getElem?_toArray,fQ] at h
   obtain⟨⟨j',l⟩,h1,h2⟩:=kJ.mp h
   cases h2
   exact⟨l,h1⟩
  have Qs:∀y,(∃l,ow[y]?=some (some l))->∃i:Nat,(((fB m ow).map (·.1)).toArray)[i]?=some y:=fun y ⟨l,h⟩=>by
   obtain⟨i,hi⟩:=Gw.mp ((jN W.sz).mpr h)
   exact⟨i,by rw[List.getElem?_toArray,fQ,hi]; rfl⟩
  refine⟨rfl,?_,?_,?_,⟨k,h3,h12,hm⟩,?_,?_⟩
  ·intro a b x y ha hb hab
   obtain⟨l,h1⟩:=W0 _ _ ha
   obtain⟨l',h2⟩:=W0 _ _ hb
   obtain⟨g1,g2⟩:=fj.mp h1
   obtain⟨g3,g4⟩:=fj.mp h2
   have:=Tn.mp (Nf (m:=m) (ow:=ow)) a b g1 g3 hab
   rw[g2,g4] at this
   exact this
  ·show((fB m ow).map (·.1)).toArray.size=_
   rw[gA,aeM,acQ]
  ·intro i j h
   obtain⟨l,h1⟩:=W0 _ _ h
   have:=(jN W.sz).mp (je h1)
   have:=(zg.mp this).1
   rw[W.sz] at this
   show j<=m
   omega
  ·show 5*(((fB m ow).map (·.2)).filterMap (hs.toList[·]?)).length<3*m
   rw[acQ]; exact hl
  ·intro i h j h1 h2
   obtain⟨l,g1⟩:=W0 _ _ h2
   have h1:(((fB m ow).map (·.2)).filterMap (hs.toList[·]?))[i]?=some h:=h1
   rw[U8 i some_,fQ,g1] at h1
   have h1:hs.toList[l]?=some h:=h1
   obtain⟨j',f1,f2,f3⟩:=W.at_ _ _ h1
   have:=W.inj _ _ _ f2 ((jN W.sz).mp (je g1))
   subst this
   exact f3.mono Qs
theorem Im (n:Nat):∀(fuel k:Nat),n<2 ^ (k+fuel)->3<=k->∃k',SetTable.sizeAbove.go n fuel (2 ^ k)=2 ^ k'/\k<=k'/\n<2 ^ k'/\(k'=k\/2 ^ (k'-1)<=n)
 | 0,k,h,_=>⟨k,rfl,bI _,h,.inl rfl⟩
 | fuel+1,k,h,h3=>by
  unfold SetTable.sizeAbove.go
  by_cases c:2 ^ k<=n
  ·rw[aP c,<- GF]
   obtain⟨k',h1,h2,h4,h5⟩:=Im n fuel (k+1) (by rw[show k+1+fuel=k+(fuel+1) by omega]; exact h) (by omega)
   refine⟨k',h1,by omega,h4,.inr ?_⟩
   rcases h5 with z | z
   ·rw[z]; exact c
   ·exact z
  ·rw[bB c]
   exact⟨k,rfl,bI _,by omega,.inl rfl⟩
theorem Vs {n:Nat} (h:n<2 ^ 12):∃k,SetTable.sizeAbove n=2 ^ k/\3<=k/\k<=12/\n<2 ^ k:=by
 obtain⟨k,h1,h2,h3,h4⟩:=Im n 64 3 (jU h (Py (by decide) (by decide))) (bI _)
 refine⟨k,h1,h2,?_,h3⟩
 rcases h4 with z | z
 ·omega
 ·have:¬12<k:=fun q=>by
   have:2 ^ 12<=2 ^ (k-1):=Py (by decide) (by omega)
   omega
  omega
theorem Pk {t:SetTable} (hs:Array Int) (hn:1<=hs.size) (hl:hs.size<=1000):∃t' order,t.relaid hs (SetTable.grown hs.size)=some (t',order)/\order.toList.length=hs.size/\(∀l∈order.toList,l<hs.size)/\(∀l,l<hs.size->l∈order.toList)/\order.toList.Nodup/\Q7 t' (order.toList.filterMap (hs.toList[·]?))/\SetTable.sizeAbove (SetTable.grown hs.size)<=4096:=by
 have eg:SetTable.grown hs.size=hs.size*4:=by unfold SetTable.grown; rw[bB (by omega)]
 rw[eg]
 obtain⟨k,h1,h2,h3,h4⟩:=Vs (n:=hs.size*4) (by omega)
 unfold SetTable.relaid
 rw[h1]
 have hp:2 ^ k-1+1=2 ^ k:=by omega
 obtain⟨t',order,g1,g2,g3,g4,g6,g5⟩:=Xv (fi:=t.finger) (mo:=t.movedTo (2 ^ k-1)) (le:=t.led) (pl:=t.plain) h2 h3 hp hs (by omega)
 exact⟨t',order,g1,g2,g3,g4,g6,g5,(Py (n:=2) (j:=12) (by decide) h3)⟩
end L2
namespace L2
open PySem PySem.Spec PyProof.Rows
open SetTable (Probe runEnd leap turns bits)
noncomputable def Ow (prog:Program) (w:World) (d:PyData):Prop:=∀(n:Nat) (A:Around) (E:Value->Shared->Prop) (s:Shared) (v:Value) (as:List Addr) (Q:Bool->Shared->Prop),Reads s.heap v d as->d.depth<=n->Q false s ->
 wpAny (model prog w) A (ofAClassStatement n v) Q E s
theorem XX {prog:Program} {w:World} {ds:List PyData} (ih:∀d∈ds,Ow prog w d):Ow prog w (.tuple ds):=by
 intro n A E s v as Q r hn h
 have hn:PyData.depthAll ds+1<=n:=hn
 obtain⟨m,rfl⟩:∃m,n=m+1:=⟨n-1,by omega⟩
 cases r with
 | @tuple a o items nn _ _ ho hc hd hi=>
 have hT:s.TypeIs (.ref a) "tuple" := ⟨o,ho,hc⟩
 unfold ofAClassStatement
 refine aW (wpAny_typeOf hT ?_)
 dsimp only
 refine aW ?_
 refine bV ?_
 simp only[wL,jw,if_false]
 refine aW (rm ho hd ?_)
 refine aW ?_
 show wpAny _ _ (forIn items _ _) _ _ s
 rw[<- Mq]
 refine G9 _ (fun rest r s'=>r.1=none/\s'=s/\∃left bs,(∀d∈left,d∈ds)/\ReadsAll s.heap rest left bs) _ ?_ ?_ _ _ ⟨rfl,rfl,ds,_,fun d h=>h,hi⟩
 ·rintro v rest r s' ⟨hr,rfl,left,bs,hall,hl⟩
  cases hl with
  | @cons _ _ k ks' as1 bs1 h1 hl'=>
  have hk:=hall k jT
  have:=lU hk
  refine aW (ih k hk m _ _ _ _ _ _ h1 (by omega) ?_)
  simp only[jw,if_false]
  exact bV ⟨rfl,rfl,ks',bs1,fun d h=>hall d (jx _ h),hl'⟩
 ·rintro⟨r1,r2⟩ s' ⟨hr,rfl,_⟩
  simp only at hr
  subst hr
  exact bV h
mutual
theorem HR {prog:Program} {w:World}:∀d:PyData,ql d=true->Ow prog w d
 | .int i,_=>by
  intro n A E s v as Q r hu h
  cases r
  cases n <;> exact bV h
 | .tuple ds,h=>XX (BP ds (by simpa[ql] using h))
 | .none,h=>nomatch h
 | .bool _,h=>nomatch h
 | .str _,h=>nomatch h
 | .list _,h=>nomatch h
 | .dict _,h=>nomatch h
theorem BP {prog:Program} {w:World}:∀ds:List PyData,gf ds=true->∀d∈ds,Ow prog w d
 | [],_,d,hd=>by cases hd
 | x::ds,h,d,hd=>by
  have h':ql x=true/\gf ds=true:=by simpa[gf] using h
  rcases bU.mp hd with e | e
  ·rw[e]; exact HR x h'.1
  ·exact BP ds h'.2 d e
end
section
variable {prog:Program} {w:World} {A:Around} {E:Value->Shared->Prop} {s:Shared}
theorem nest_cls {d:PyData} {b:Addr} (h:(bF prog w).is s.heap d b) {Q:Bool->Shared->Prop} (q:Q false s):wpAny (model prog w) A (ofAClassStatement 8 (.ref b)) Q E s:=by
 obtain⟨g,dp,as,r⟩:=h
 exact HR d g 8 _ _ _ _ _ _ r dp q
theorem V5 {d:PyData} {b:Addr} (hb:(bF prog w).is s.heap d b) {ys:List Value} (hy:∀y∈ys,∃e c,y=Value.ref c/\(bF prog w).is s.heap e c) {Q:Bool->Shared->Prop} (q:Q false s) :
  wpAny (model prog w) A (searchCouldBeSeen (.ref b) ys) Q E s:=by
 unfold searchCouldBeSeen
 refine aW ?_
 refine G9 _ (fun rest r s'=>r.1=none/\s'=s/\∀y∈rest,y∈ys) _ ?_ ?_ _ _ ⟨rfl,rfl,fun y h=>h⟩
 ·rintro v rest r s' ⟨hr,rfl,hall⟩
  obtain⟨e,c,rfl,hc⟩:=hy v (hall v jT)
  dsimp only
  by_cases z:(b==c)=true
  ·rw[aP (by rw[z]; rfl)]
   exact bV ⟨rfl,rfl,fun y h=>hall y (jx _ h)⟩
  ·rw[bB (by simp only[Bool.not_eq_true] at z; rw[z]; exact lK)]
   try refine aW (bV ?_)
   refine aW ((bF prog w).quiet hb ?_)
   simp only[wL,jw,if_false]
   try refine aW (bV ?_)
   refine aW ((bF prog w).quiet hc ?_)
   simp only[wL,jw,if_false]
   try refine aW (bV ?_)
   refine aW (nest_cls hb ?_)
   simp only[jw,if_false]
   try refine aW (bV ?_)
   refine aW (nest_cls hc ?_)
   simp only[jw,if_false]
   try refine aW (bV ?_)
   exact bV ⟨rfl,rfl,fun y h=>hall y (jx _ h)⟩
 ·rintro⟨r1,r2⟩ s' ⟨hr,rfl,_⟩
  simp only at hr
  subst hr
  exact bV q
noncomputable def skE (x:PyData×Addr):Int×Value:=(bJ x.1,.ref x.2)
structure Rr (h:Heap) (a:Addr) (o:Obj) (es:Array (Int×Value)) (ep:Nat) (t:SetTable) (xs:List (PyData×Addr)):Prop where
 get:h.get? a=some o
 ex:o.ExactSet
 dt:o.data=.set es ep t
 es:es.toList=xs.map skE
 ti:Q7 t (xs.map fun x=>bJ x.1)
 nd:(xs.map (·.1)).Nodup
theorem Rr.size {h:Heap} {a:Addr} {o:Obj} {es:Array (Int×Value)} {ep:Nat} {t:SetTable} {xs:List (PyData×Addr)} (S:Rr h a o es ep t xs):es.size=xs.length:=by
 rw[<- nj,S.es,bM]
theorem Rr.fits {h:Heap} {a:Addr} {o:Obj} {es:Array (Int×Value)} {ep:Nat} {t:SetTable} {xs:List (PyData×Addr)} (S:Rr h a o es ep t xs):t.fits es.size=true:=by
 have:=S.ti.fits
 rw[bM] at this
 rw[S.size]; exact this
theorem Rr.at {h:Heap} {a:Addr} {o:Obj} {es:Array (Int×Value)} {ep:Nat} {t:SetTable} {xs:List (PyData×Addr)} (S:Rr h a o es ep t xs) (i:Nat):es[i]?=xs[i]?.map skE:=by
 rw[<- Gu,S.es,fQ]
theorem vy (m:Nat) (h:Int) (n n':Nat):(il m n' (il m n (jmp m (bits h % (m+1)) (bits h)))).j=way m h (n+n'):=by unfold way; rw[mK]
theorem z7 {a:Addr} {o:Obj} {es:Array (Int×Value)} {ep:Nat} {t:SetTable} {xs:List (PyData×Addr)} {d:PyData} {b:Addr} {adding:Bool} (hr:(bF prog w).room A) (S:Rr s.heap a o es ep t xs) (hk:∀x∈xs,(bF prog w).is s.heap x.1 x.2) (hb:(bF prog w).is s.heap d b) {Q:SetFound->Shared->Prop}
  (h1:d∈xs.map (·.1)->∀r:Option Nat,(adding=false->r.isSome=true)->Q (.there r) s)
  (h2:d∉xs.map (·.1)->∀j,j<=t.mask->(∀i:Nat,t.place[i]?≠some j)->Path t.mask (fun y=>∃i:Nat,t.place[i]?=some y) (bJ d) j->Q (.free j false) s) :
  wpAny (model prog w) A (setSearch a (.ref b) (bJ d) adding) Q E s:=by
 have T:=S.ti
 obtain⟨M,m1,m2,m3,m4⟩:=T.first (vN t (bJ d))
 rw[Ae] at m2 m3 m4
 have m2:∀n,n<M->∃i:Nat,t.place[i]?=some (way t.mask (bJ d) n)/\t.slot (way t.mask (bJ d) n)=.live i:=m2
 have m3:∀i:Nat,t.place[i]?≠some (way t.mask (bJ d) M):=m3
 have m4:t.slot (way t.mask (bJ d) M)=.empty:=m4
 have hM:M<50000:=by
  obtain⟨k,_,k2,k3⟩:=T.pw
  have:2 ^ k<=2 ^ 12:=Py (by decide) k2
  unfold turns at m1
  omega
 have key:∀(fuel n:Nat) (stand:Option Probe),n<=M->M-n<fuel->stand.getD (t.probeStart (bJ d))=il t.mask n (jmp t.mask (bits (bJ d) % (t.mask+1)) (bits (bJ d))) ->
   (∀(n' i:Nat),n'<n->t.place[i]?=some (way t.mask (bJ d) n')->∀x:PyData×Addr,xs[i]?=some x->x.1≠d)->wpAny (model prog w) A (setSearchFrom a (.ref b) (bJ d) adding fuel stand) Q E s:=by
  intro fuel
  induction fuel with
  | zero=>intro n stand _ h; omega
  | succ fuel ih=>
   intro n stand hn hf est Y8
   unfold setSearchFrom
   refine aW (Pq S.get S.dt S.fits ?_)
   dsimp only
   rw[T.odd]
   simp only[jw,if_false]
   rw[est]
   obtain⟨n1,q1,q2,q3⟩:=Hy (P:=fun c=>M<=n+c\/∃i:Nat,t.place[i]?=some (way t.mask (bJ d) (n+c))/\∃x,xs[i]?=some x/\bJ x.1=bJ d) (M-n) (.inl (by omega))
   have wp:WP t.mask (il t.mask n (jmp t.mask (bits (bJ d) % (t.mask+1)) (bits (bJ d)))):=by rw[<- Ae]; exact(vN t (bJ d)).il n
   have live:∀n',n'<n1->∃i,t.slot (il t.mask n' (il t.mask n (jmp t.mask (bits (bJ d) % (t.mask+1)) (bits (bJ d))))).j=.live i/\(((es[i]?.map (·.1)).getD 0)==bJ d)=false:=fun n' hn'=>by
    have:=q3 n' hn'
    have hlt:n+n'<M:=by
     rcases Nat.lt_or_ge (n+n') M with z | z
     ·exact z
     ·exact absurd (.inl z) this
    obtain⟨i,i1,i2⟩:=m2 _ hlt
    refine⟨i,by rw[vy]; exact i2,?_⟩
    have hil:i<xs.length:=by
     have:=(zg.mp i1).1
     rw[T.sz,bM] at this
     exact this
    rw[S.at,fD hil]
    show(bJ xs[i].1==bJ d)=false
    rw[beq_eq_false_iff_ne]
    intro z
    exact this (.inr ⟨i,i1,xs[i],fD hil,z⟩)
   by_cases c:M<=n+n1
   ·have eM:n+n1=M:=by omega
    have he:t.slot (il t.mask n1 (il t.mask n (jmp t.mask (bits (bJ d) % (t.mask+1)) (bits (bJ d))))).j=.empty:=by rw[vy,eM]; exact m4
    erw [Hh (hashAt:=fun i=>(es[i]?.map (·.1)).getD 0) wp (by omega) live he]
    dsimp only
    rw[vy,eM]
    refine bV (h2 ?_ _ ?_ m3 ⟨M,rfl,fun n' hn'=>let ⟨i,z,_⟩:=m2 n' hn'; ⟨i,z⟩⟩)
    ·intro hd
     obtain⟨x,hx,rfl⟩:=iK.mp hd
     obtain⟨i,hi⟩:=Gw.mp hx
     have hil:i<xs.length:=(fj.mp hi).1
     have hip:i<t.place.size:=by rw[T.sz,bM]; exact hil
     have ep:=Gx hip
     obtain⟨ni,e1,e2⟩:=T.pa i (bJ x.1) _ (by rw[fQ,hi]; rfl) ep
     have hlt:ni<M:=by
      rcases Nat.lt_trichotomy ni M with z | z | z
      ·exact z
      ·exact absurd (by rw[<- z,e1]; exact ep) (m3 i)
      ·obtain⟨i',z'⟩:=e2 M z; exact absurd z' (m3 i')
     rw[<- e1] at ep
     by_cases d1:ni<n
     ·exact Y8 ni i d1 ep x hi rfl
     ·refine q3 (ni-n) (by omega) (.inr ⟨i,by rw[show n+(ni-n)=ni by omega]; exact ep,x,hi,rfl⟩)
    ·have:=((vN t (bJ d)).il M).le
     exact this
   ·rcases q2 with z | ⟨i,i1,x,i2,i3⟩
    ·exact absurd z c
    ·have i4:=Af T.ri i1
     have hc:t.slot (il t.mask n1 (il t.mask n (jmp t.mask (bits (bJ d) % (t.mask+1)) (bits (bJ d))))).j=.live i:=by rw[vy]; exact i4
     have hh:(fun i=>(es[i]?.map (·.1)).getD 0) i=bJ d:=by
      show(es[i]?.map (·.1)).getD 0=bJ d
      rw[S.at,i2]; exact i3
     erw [JF (hashAt:=fun i=>(es[i]?.map (·.1)).getD 0) (by omega) live hc hh]
     dsimp only
     have hx:=je i2
     have ei:es[i]?=some (bJ x.1,Value.ref x.2):=by rw[S.at,i2]; rfl
     have tail:wpAny (model prog w) A (do
       let some (_,y):=es[i]? | unsupported "internal:set-entry"
       let equal <- holding [y] (eqBool y (.ref b))
       let (es',_,t') <- setState a
       if adding&&equal then return .there none
       let some same:=t'.sameMemory t.moves t.mask | unsupported "set.changed-during-lookup:is-the-new-block-at-the-old-address"
       let still <- match (if same then t'.slot (il t.mask n1 (il t.mask n (jmp t.mask (bits (bJ d) % (t.mask+1)) (bits (bJ d))))).j else .empty) with
        | .live i'=>match es'[i']? with
         | some (_,y')=>do pure (if <- isSame y' y then some i' else none)
         | none=>pure none
        | _=>pure none
       match still with
       | none=>rule "set.search.anew"; setSearchFrom a (.ref b) (bJ d) adding fuel none
       | some i'=>if equal then return .there (some i') else setSearchFrom a (.ref b) (bJ d) adding fuel (some (il t.mask (n1+1) (il t.mask n (jmp t.mask (bits (bJ d) % (t.mask+1)) (bits (bJ d))))))) Q E s:=by
      rw[ei]
      dsimp only
      refine aW (pK ((bF prog w).eqBool hr (hk x hx) hb ?_))
      refine aW (Pq S.get S.dt S.fits ?_)
      dsimp only
      have sm:t.sameMemory t.moves t.mask=some true:=by unfold SetTable.sameMemory; simp
      rw[sm,hc]
      dsimp only
      simp only[if_true]
      rw[ei]
      dsimp only
      have isS:∀{Q':Bool->Shared->Prop},Q' true s->wpAny (model prog w) A (isSame (Value.ref x.2) (Value.ref x.2)) Q' E s:=fun h=>by
       unfold isSame
       simp only[beq_self_eq_true,if_true]
       exact bV h
      by_cases e:x.1=d
      ·rw[h_ e]
       have hm:d∈xs.map (·.1):=e▸List.mem_map_of_mem hx
       cases adding with
       | true=>
        simp only[Bool.and_self,if_true]
        exact bV (h1 hm none (fun z=>nomatch z))
       | false=>
        simp only[Bool.false_and,jw,if_false]
        refine aW (isS (aW (bV ?_)))
        simp only[if_true]
        exact bV (h1 hm _ fun _=>rfl)
      ·rw[ju e]
       simp only[Bool.and_false,jw,if_false]
       refine aW (isS (aW (bV ?_)))
       simp only[if_true,jw,if_false]
       refine ih (n+n1+1) _ (by omega) (by omega) ?_ ?_
       ·show il t.mask (n1+1) _=_
        rw[<- mK,Gp]
       ·intro n' i' hn' hi' x' hx'
        by_cases c1:n'<n
        ·exact Y8 n' i' c1 hi' x' hx'
        ·by_cases c2:n'=n+n1
         ·subst c2
          have:=T.ri.inj hi' i1
          subst this
          rw[i2] at hx'; cases hx'
          exact e
         ·intro z
          exact q3 (n'-n) (by omega) (.inr ⟨i',by rw[show n+(n'-n)=n' by omega]; exact hi',x',hx',by rw[z]⟩)
     by_cases aaX:t.led=true
     ·rw[aaX]
      simp only[wL,jw,if_false]
      exact tail
     ·simp only[Bool.not_eq_true] at aaX
      rw[aaX]
      simp only[Bool.not_false,if_true]
      refine aW (V5 hb (fun y hy=>?_) ?_)
      ·obtain⟨e,he,rfl⟩:=iK.mp hy
       rw[Array.mem_toList_iff] at he
       have he:=(Array.mem_filter.mp he).1
       rw[<- Array.mem_toList_iff,S.es] at he
       obtain⟨x',hx',rfl⟩:=iK.mp he
       exact⟨x'.1,x'.2,rfl,hk x' hx'⟩
      ·simp only[jw,if_false]
       first | exact tail | exact aW (bV tail)
 unfold setSearch
 exact key 100000 0 none (e_ _) (by omega) rfl (fun n' i h=>by omega)
end
end L2
namespace L2
open PySem PySem.Spec PyProof.Rows
open SetTable (Probe runEnd leap turns bits)
section
variable {prog:Program} {w:World} {A:Around} {E:Value->Shared->Prop} {s:Shared}
theorem V6 {a:Addr} {o:Obj} {es:Array (Int×Value)} {ep:Nat} {t:SetTable} {xs:List (PyData×Addr)} {d:PyData} {b:Addr} (hr:(bF prog w).room A) (S:Rr s.heap a o es ep t xs) (hk:∀x∈xs,(bF prog w).is s.heap x.1 x.2) (hb:(bF prog w).is s.heap d b) {Q:Option Nat->Shared->Prop}
  (h:∀r:Option Nat,(r.isSome=true↔d∈xs.map (·.1))->Q r s):wpAny (model prog w) A (setFind a (.ref b) (bJ d)) Q E s:=by
 unfold setFind setFindIn
 refine aW (Pq S.get S.dt S.fits ?_)
 dsimp only
 have bs:byScan (.ref b) es=false:=rfl
 rw[bs]
 simp only[jw,if_false]
 refine aW (z7 hr S hk hb (fun hd r hr'=>?_) (fun hd j _ _ _=>?_))
 ·exact bV (h r ⟨fun _=>hd,fun _=>hr' rfl⟩)
 ·exact bV (h none ⟨fun z=>(nomatch z),fun z=>absurd z hd⟩)
noncomputable def Ov (prog:Program) (w:World) (d:PyData):Prop:=∀(n:Nat) (A:Around) (E:Value->Shared->Prop) (s:Shared) (v:Value) (as:List Addr) (Q:Bool->Shared->Prop),Reads s.heap v d as->d.depth<=n->Q true s ->
 wpAny (model prog w) A (hashByValue n v) Q E s
theorem XF {ds:List PyData} (ih:∀d∈ds,Ov prog w d):Ov prog w (.tuple ds):=by
 intro n A E s v as Q r hn h
 have hn:PyData.depthAll ds+1<=n:=hn
 obtain⟨m,rfl⟩:∃m,n=m+1:=⟨n-1,by omega⟩
 cases r with
 | @tuple a o items nn _ _ ho hc hd hi=>
 have hT:s.TypeIs (.ref a) "tuple" := ⟨o,ho,hc⟩
 unfold hashByValue
 refine aW (Bb hT F.slot_tuple_hash.lookup ?_)
 show wpAny _ _ (seqItems? (.ref a) >>= _) _ _ s
 refine aW (rm ho hd ?_)
 refine aW ?_
 show wpAny _ _ (forIn items _ _) _ _ s
 rw[<- Mq]
 refine G9 _ (fun rest r s'=>r.1=none/\s'=s/\∃left bs,(∀d∈left,d∈ds)/\ReadsAll s.heap rest left bs) _ ?_ ?_ _ _ ⟨rfl,rfl,ds,_,fun d h=>h,hi⟩
 ·rintro v rest r s' ⟨hr,rfl,left,bs,hall,hl⟩
  cases hl with
  | @cons _ _ k ks' as1 bs1 h1 hl'=>
  have hk:=hall k jT
  have:=lU hk
  refine aW (ih k hk m _ _ _ _ _ _ h1 (by omega) ?_)
  simp only[wL,jw,if_false]
  exact bV ⟨rfl,rfl,ks',bs1,fun d h=>hall d (jx _ h),hl'⟩
 ·rintro⟨r1,r2⟩ s' ⟨hr,rfl,_⟩
  simp only at hr
  subst hr
  exact bV h
mutual
theorem HJ:∀d:PyData,ql d=true->Ov prog w d
 | .int i,_=>by
  intro n A E s v as Q r hu h
  cases r
  cases n <;> exact bV h
 | .tuple ds,h=>XF (Bu ds (by simpa[ql] using h))
 | .none,h=>nomatch h
 | .bool _,h=>nomatch h
 | .str _,h=>nomatch h
 | .list _,h=>nomatch h
 | .dict _,h=>nomatch h
theorem Bu:∀ds:List PyData,gf ds=true->∀d∈ds,Ov prog w d
 | [],_,d,hd=>by cases hd
 | x::ds,h,d,hd=>by
  have h':ql x=true/\gf ds=true:=by simpa[gf] using h
  rcases bU.mp hd with e | e
  ·rw[e]; exact HJ x h'.1
  ·exact Bu ds h'.2 d e
end
theorem ins_map {α β:Type} (f:α->β) (xs:List α) (p:Nat) (x:α):(xs.take p++x::xs.drop p).map f=(xs.map f).take p++f x::(xs.map f).drop p:=by
 rw[iu,q_,Aw,List.map_drop]
theorem QD {α:Type} {xs:List α} {p:Nat} {x:α} (h:xs.Nodup) (hx:x∉xs):(xs.take p++x::xs.drop p).Nodup:=by
 have e:(xs.take p++x::xs.drop p).Perm (x::xs):=by
  refine List.perm_middle.trans ?_
  rw[List.take_append_drop]
 exact e.nodup_iff.mpr (GX.mpr ⟨hx,h⟩)
theorem T3 {xs:List (PyData×Addr)} {order:List Nat} (nd:order.Nodup) (hl:order.length=xs.length) (lt:∀l∈order,l<xs.length) (all:∀l,l<xs.length->l∈order) :
  ∃ys:List (PyData×Addr),(∀f:(PyData×Addr)->Int×Value,order.filterMap ((xs.map f)[·]?)=ys.map f)/\(∀f:(PyData×Addr)->Int,order.filterMap ((xs.map f)[·]?)=ys.map f)/\ys.length=xs.length/\ys.Perm xs:=by
 have sm:∀l∈order,(xs[l]?).isSome=true:=fun l h=>by rw[fD (lt l h)]; rfl
 have e:∀{γ:Type} (f:(PyData×Addr)->γ),order.filterMap ((xs.map f)[·]?)=(order.filterMap (xs[·]?)).map f:=fun f=>by
  rw[List.map_filterMap]
  congr 1
  funext l
  rw[fQ]
 have hp:order.Perm (List.range xs.length):=by
  refine(List.perm_ext_iff_of_nodup nd List.nodup_range).mpr fun l=>?_
  rw[Di]
  exact⟨lt l,all l⟩
 refine⟨order.filterMap (xs[·]?),e,e,by rw[J9 sm,hl],?_⟩
 have:=hp.filterMap (xs[·]?)
 rw[List.filterMap_getElem?_range_length] at this
 exact this
theorem RC {a:Addr} {o:Obj} {es:Array (Int×Value)} {ep:Nat} {t:SetTable} {xs:List (PyData×Addr)} (ho:s.heap.get? a=some o) (hx:o.ExactSet) (hd:o.data=.set es ep t) (hes:es.toList=xs.map skE) (hf:t.fits es.size=true) (nd:(xs.map (·.1)).Nodup) (h1:1<=xs.length) (h2:xs.length<=1000) {Q:Unit->Shared->Prop}
  (q:∀h' o' es' ep' t' ys,Heap.SameBut a s.heap h'->Rr h' a o' es' ep' t' ys->ys.Perm xs->Q () { s with heap:=h' }):wpAny (model prog w) A (setRelay a (SetTable.grown xs.length)) Q E s:=by
 have sz:es.size=xs.length:=by rw[<- nj,hes,bM]
 have hsz:(es.map (·.1)).size=xs.length:=by rw[Array.size_map,sz]
 have hl:(es.map (·.1)).toList=xs.map fun x=>bJ x.1:=by rw[Array.toList_map,hes,List.map_map]; rfl
 obtain⟨t',order,g1,g2,g3,g4,g6,g5,g7⟩:=Pk (t:=t) (es.map (·.1)) (by omega) (by omega)
 rw[hsz] at g1 g2 g3 g4 g7
 obtain⟨ys,y1,y2,y3,y4⟩:=T3 g6 g2 g3 g4
 unfold setRelay
 refine aW (Pq ho hd hf ?_)
 dsimp only
 have zl:(4096:Nat)<=sizeLine:=by rw[sizeLine_eq]; decide
 rw[bB (by omega)]
 have e1:(order.filterMap (es[·]?)).toList=ys.map skE:=by
  rw[Array.toList_filterMap,<- y1 skE]
  congr 1
  funext l
  rw[<- hes,Gu]
 have tail:wpAny (model prog w) A (storeSet a (order.filterMap (es[·]?)) t') Q E s:=by
  have hz:(order.filterMap (es[·]?)).size<=sizeLine:=by
   rw[<- nj,e1,bM,y3]; omega
  refine wpAny_storeSet_of ho hd ?_ hz
  have hg:(s.heap.update a (Obj.putSet (order.filterMap (es[·]?)) t')).get? a=some { o with data:=.set (order.filterMap (es[·]?)) (ep+1) t' }:=by
   have:=zb (Obj.putSet (order.filterMap (es[·]?)) t') ho (by rw[putSet_of _ t' hd]; rfl)
   rw[putSet_of _ t' hd] at this; exact this
  refine q _ _ _ _ t' ys (Mr s.heap a _) ⟨hg,hx,rfl,e1,?_,?_⟩ y4
  ·rw[hl,y2 fun x=>bJ x.1] at g5
   exact g5
  ·exact(y4.map _).nodup_iff.mpr nd
 have es2:(order.filterMap (es[·]?)).size=es.size:=by rw[<- nj,e1,bM,y3,sz]
 rw[g1]
 refine aW ?_
 show wpAny _ _ (if((order.filterMap (es[·]?)).size != es.size)=true then(unsupported "internal:set-table-lost-an-element" >>= fun _=>pure (order.filterMap (es[·]?),t')) else pure (order.filterMap (es[·]?),t')) _ _ _
 rw[bB (by rw[es2]; simp)]
 exact bV tail
theorem TbJ.fits {t:SetTable} {hs:List Int} (T:TbJ t hs):t.fits hs.length=true:=by
 have h1:=T.sz
 have h2:=T.fl
 simp only[SetTable.fits,SetTable.fill,T.dm,h1,wM,beq_iff_eq,decide_eq_true_eq]
 refine⟨trivial,?_⟩
 show hs.length+0<=t.mask
 omega
theorem Zx {a:Addr} {o:Obj} {es:Array (Int×Value)} {ep:Nat} {t:SetTable} {xs:List (PyData×Addr)} {d:PyData} {b:Addr} (hr:(bF prog w).room A) (S:Rr s.heap a o es ep t xs) (hk:∀x∈xs,(bF prog w).is s.heap x.1 x.2) (hb:(bF prog w).is s.heap d b) (hl:xs.length<1000) {Q:Bool->Shared->Prop}
  (q:∀r h' o' es' ep' t' ys,Heap.SameBut a s.heap h'->Rr h' a o' es' ep' t' ys->(d∈xs.map (·.1)/\ys=xs\/d∉xs.map (·.1)/\ys.Perm ((d,b)::xs))->Q r { s with heap:=h' }) :
  wpAny (model prog w) A (setAddHashed a (.ref b) (bJ d)) Q E s:=by
 unfold setAddHashed setAddHashedIn
 refine pK (aW (Pq S.get S.dt S.fits ?_))
 dsimp only
 have bs:byScan (.ref b) es=false:=rfl
 rw[bs]
 simp only[jw,if_false]
 refine aW (z7 hr S hk hb (fun hd r _=>?_) (fun hd j hj hn hp=>?_))
 ·have e:s={ s with heap:=s.heap }:=by cases s; rfl
  have:=q false s.heap o es ep t xs (Heap.SameBut.refl a s.heap) S (.inl ⟨hd,rfl⟩)
  exact bV (by rw[e]; exact this)
 ·dsimp only
  refine aW (Pq S.get S.dt S.fits ?_)
  dsimp only
  obtain⟨J,p1,p2,p3⟩:=S.ti.put hj hn hp
  generalize (t.put j).1=t1 at J p2 p3 ⊢
  generalize (t.put j).2=pp at J p1 ⊢
  rw[bM] at p1
  have tail:wpAny (model prog w) A (storeSet a (SetTable.insertAt es pp (bJ d,.ref b)) t1 >>= fun _=>if(!false&&t1.tooFull)=true then(setRelay a (SetTable.grown (es.size+1)) >>= fun _=>pure true) else pure true) Q E s:=by
   have eL:(SetTable.insertAt es pp (bJ d,Value.ref b)).toList=(xs.take pp++(d,b)::xs.drop pp).map skE:=by
    rw[SetTable.toList_insertAt,S.es,ins_map]; rfl
   have hn':(xs.take pp++(d,b)::xs.drop pp).length=xs.length+1:=by
    simp only[gH,jG,jF,wO]; omega
   have hz:(SetTable.insertAt es pp (bJ d,Value.ref b)).size<=sizeLine:=by
    have zl:(4096:Nat)<=sizeLine:=by rw[sizeLine_eq]; decide
    rw[<- nj,eL,bM,hn']; omega
   refine aW (wpAny_storeSet_of S.get S.dt ?_ hz)
   have hg:(s.heap.update a (Obj.putSet (SetTable.insertAt es pp (bJ d,Value.ref b)) t1)).get? a=some { o with data:=.set (SetTable.insertAt es pp (bJ d,Value.ref b)) (ep+1) t1 }:=by
    have:=zb (Obj.putSet (SetTable.insertAt es pp (bJ d,Value.ref b)) t1) S.get (by rw[putSet_of _ t1 S.dt]; rfl)
    rw[putSet_of _ t1 S.dt] at this; exact this
   have sb:=Mr s.heap a (Obj.putSet (SetTable.insertAt es pp (bJ d,Value.ref b)) t1)
   generalize s.heap.update a (Obj.putSet (SetTable.insertAt es pp (bJ d,Value.ref b)) t1)=h1 at hg sb ⊢
   have J':TbJ t1 ((xs.take pp++(d,b)::xs.drop pp).map fun x=>bJ x.1):=by rw[ins_map]; exact J
   have nd':((xs.take pp++(d,b)::xs.drop pp).map (·.1)).Nodup:=by rw[ins_map]; exact QD S.nd hd
   have pm:(xs.take pp++(d,b)::xs.drop pp).Perm ((d,b)::xs):=by
    refine List.perm_middle.trans ?_
    rw[List.take_append_drop]
   cases ef:t1.tooFull with
   | false=>
    simp only[Bool.not_false,Bool.and_false,jw,if_false]
    exact bV (q true h1 _ _ _ _ _ sb ⟨hg,S.ex,rfl,eL,J'.ti ef,nd'⟩ (.inr ⟨hd,pm⟩))
   | true=>
    simp only[Bool.not_false,Bool.and_self,if_true]
    have esz:es.size+1=(xs.take pp++(d,b)::xs.drop pp).length:=by rw[hn',S.size]
    rw[esz]
    refine aW (RC (s:={ s with heap:=h1 }) hg S.ex rfl eL ?_ nd' (by omega) (by omega) fun h' o' es' ep' t' ys sb' S' py=>?_)
    ·have:=J'.fits
     rw[bM] at this
     rw[<- nj,eL,bM]
     exact this
    ·exact bV (q true h' _ _ _ _ ys (sb.trans sb') S' (.inr ⟨hd,py.trans pm⟩))
  cases epl:t1.plain with
  | false=>
   simp only[jw,if_false]
   refine aW (bV ?_)
   simp only[if_true]
   exact tail
  | true=>
   simp only[if_true]
   obtain⟨g,dp,as,r⟩:=hb
   refine aW (HJ d g 8 _ _ _ _ _ _ r dp ?_)
   simp only[if_true]
   exact tail
end
noncomputable def SkP (a:Addr) (xs:List (PyData×Addr)) (h:Heap):Prop:=∃o es ep t,Rr h a o es ep t xs
noncomputable def Zf (a:Addr) (xs:List (PyData×Addr)):HO:=.ext (SkP a xs)
noncomputable def iM (H:Hp) (a:Addr) (ks:List PyData):Prop:=∃xs,H a=some (Zf a xs)/\(∀d,d∈ks↔d∈xs.map (·.1))/\(∀x∈xs,pX x.1/\At H x.1 (.ref x.2))/\xs.length<=ks.length
theorem iM.keep {H H':Hp} {a:Addr} {ks:List PyData} (n:iM H a ks) (ha:H' a=H a) (k:∀b xs,H b=some (.tup xs)->H' b=some (.tup xs)):iM H' a ks:=by
 obtain⟨xs,e,m,r,l⟩:=n
 exact⟨xs,ha.trans e,m,fun x hx=>⟨(r x hx).1,At.tupS k _ _ (mH _ (r x hx).1.k).2.2 (r x hx).2⟩,l⟩
theorem iM.same {H H':Hp} {a:Addr} {ks:List PyData} (n:iM H a ks) (s:aG H H'):iM H' a ks:=by
 obtain⟨xs,e,r⟩:=id n
 exact n.keep ((s _ _ e).trans e.symm) fun b xs h=>s _ _ h
theorem iM.ext {H:Hp} {a:Addr} {ks:List PyData} (n:iM H a ks):∃φ,H a=some (.ext φ):=by
 obtain⟨xs,e,_⟩:=n
 exact⟨_,e⟩
theorem iM.V9 {H:Hp} {a p:Addr} {ks:List PyData} {ys:List V} {o:HO} (n:iM H a ks) (hp:H p=some (.lst ys)):iM (upd H p o) a ks:=by
 obtain⟨φ,e⟩:=n.ext
 have na:a≠p:=fun z=>by rw[z,hp] at e; cases e
 refine n.keep (aR na) fun b xs h=>?_
 have nb:b≠p:=fun z=>by rw[z,hp] at h; cases h
 rw[aR nb]; exact h
section
variable {X:Cx} {pins:List (Addr×Obj)} {σ:St} {H:Hp} {s:Shared} {a:Addr} {ks:List PyData}
theorem YD {P:Program} {w:World} {H:Hp} {h:Heap} {xs:List (PyData×Addr)} (n:SkP a xs h):cz P w H h a (Zf a xs):=by
 obtain⟨o,es,ep,t,S⟩:=n
 exact⟨⟨o,es,ep,t,S⟩,⟨o,S.get⟩,fun h1' h2' ⟨o',es',ep',t',S'⟩ k=>⟨o',es',ep',t',k _ S'.get,S'.ex,S'.dt,S'.es,S'.ti,S'.nd⟩⟩
theorem Sx (I:Inv X pins σ H s) (n:iM H a ks):∃xs,H a=some (Zf a xs)/\(∀d,d∈ks↔d∈xs.map (·.1))/\(∀x∈xs,pX x.1/\At H x.1 (.ref x.2))/\xs.length<=ks.length/\SkP a xs s.heap/\∀x∈xs,(bF X.prog X.w).is s.heap x.1 x.2:=by
 obtain⟨xs,e,m,r,l⟩:=n
 obtain⟨p,_,_⟩:=(show cz X.prog X.w H s.heap a (Zf a xs) from I.hok a _ e)
 exact⟨xs,e,m,r,l,p,fun x hx=>rG I.hok (r x hx).1 (r x hx).2⟩
noncomputable def g8 (H:Hp) (a:Addr) (ks:List PyData) (d:PyData) (H':Hp):Prop:=(∃φ,H'=upd H a (.ext φ))/\iM H' a (ks++[d])
theorem g8.tup {H H':Hp} {a:Addr} {ks:List PyData} {d:PyData} (n:iM H a ks) (p:g8 H a ks d H'):∀b xs,H b=some (.tup xs)->H' b=some (.tup xs):=fun b xs h=>by
 obtain⟨⟨φ,rfl⟩,_⟩:=p
 obtain⟨ψ,e⟩:=n.ext
 have nb:b≠a:=fun z=>by rw[z,e] at h; cases h
 rw[aR nb]; exact h
theorem g8.lst {H H':Hp} {a:Addr} {ks:List PyData} {d:PyData} (n:iM H a ks) (p:g8 H a ks d H'):∀b xs,H b=some (.lst xs)->H' b=some (.lst xs):=fun b xs h=>by
 obtain⟨⟨φ,rfl⟩,_⟩:=p
 obtain⟨ψ,e⟩:=n.ext
 have nb:b≠a:=fun z=>by rw[z,e] at h; cases h
 rw[aR nb]; exact h
theorem g8.at {H H':Hp} {a:Addr} {ks:List PyData} {d e:PyData} {u:V} (n:iM H a ks) (p:g8 H a ks d H') (h:uQ e=true) (x:At H e u):At H' e u:=At.tupS (g8.tup n p) _ _ h x
theorem g8.same {H H':Hp} {a:Addr} {ks:List PyData} {d:PyData} {H0:Hp} (p:g8 H a ks d H') (s:aG H0 H) (f:H0 a=none):aG H0 H':=by
 obtain⟨⟨φ,rfl⟩,_⟩:=p
 exact s.eZ f
theorem sV (I:Inv X pins σ H s) (n:iM H a ks):s.TypeIs (.ref a) "set" /\ ∀b,Value.ref a=.ref b->∃ob,s.heap.get? b=some ob/\ob.dict=none:=by
 obtain⟨xs,e,m,r,l,⟨o,es,ep,t,S⟩,_⟩:=Sx I n
 exact⟨⟨o,S.get,S.ex.1⟩,fun b z=>by cases z; exact⟨o,S.get,S.ex.2.1⟩⟩
theorem Wn {A:Around} {E:Value->Shared->Prop} {b:Addr} {d:PyData} {Q:Option Nat->Shared->Prop} (hu:(bF X.prog X.w).room A) (I:Inv X pins σ H s) (n:iM H a ks) (ky:iI H d (.ref b)) (h:∀r:Option Nat,r.isSome=decide (d∈ks)->Q r s) :
  wpAny (model X.prog X.w) A (setFind a (.ref b) (bJ d)) Q E s:=by
 obtain⟨xs,e,m,r,l,⟨o,es,ep,t,S⟩,hk⟩:=Sx I n
 refine V6 hu S hk (rG I.hok ky.1 ky.2) fun r hr=>h r ?_
 rw[<- m d] at hr
 by_cases z:d∈ks
 ·rw[h_ z]; exact hr.mpr z
 ·rw[ju z,<- Bool.not_eq_true]; exact fun q=>z (hr.mp q)
end
end L2
namespace L2
open PySem PySem.Spec PyProof.Rows
section
variable {X:Cx} {pins:List (Addr×Obj)} {σ:St} {H:Hp} {s:Shared} {a:Addr} {ks:List PyData}
theorem Sy {A:Around} {E:Value->Shared->Prop} {Q:Value->Shared->Prop} {d:PyData} {y:V} {u:Value} (hu:A.units+64<cLine) (I:Inv X pins σ H s) (n:iM H a ks) (ky:iI H d y) (ry:RelV y u) (h:∀s',Inv X pins σ H s'->Q (.bool (!decide (d∈ks))) s') :
  wpAny (model X.prog X.w) A (compareOp .NotIn u (.ref a)) Q E s:=by
 obtain⟨b,rfl,rfl⟩:=ky.ref ry
 have hT:=(sV I n).1
 show wpAny _ _ (do return .bool (!(<- contains (.ref a) (.ref b)))) Q E s
 refine aW ?_
 unfold contains
 try with_reducible refine pK ?_
 refine aW (Bb hT F.slot_set_contains.lookup ?_)
 show wpAny _ _ (if(some (Value.builtin "set.__contains__")==some Value.none)=true then _ else _) _ E s
 rw[bB (by rw[beq_builtin_none]; exact lK)]
 refine aW (wpAny_callSpecialUnlessNone?_slot (name:=Str.ofString "__contains__") hT F.slot_set_contains
  (wQ F.slot_set_contains hT entry_set_contains ?_ (F.args_set_contains_2 _ _)))
 unfold Builtin.«frozenset.__contains__» Builtin.Frozenset.oneOther
 simp only[List.isEmpty_nil,bind_assoc]
 unfold Builtin.Frozenset.addrOf Builtin.Frozenset.withSetAsKey setContains
 refine aW (bV ?_)
 try dsimp only
 refine aW (bV ?_)
 try dsimp only
 refine aW (Ay ?_)
 refine pK ?_
 refine aW ((bF X.prog X.w).pyHash (pq hu) (rG I.hok ky.1 ky.2) ?_)
 have I':Inv X pins σ H { s with toks:=s.toks+(bF X.prog X.w).draws d }:=I.tok _
 refine aW (Wn (s:={ s with toks:=s.toks+(bF X.prog X.w).draws d }) (pq hu) I' n ky fun r hr=>?_)
 refine bV ?_
 show wpAny _ _ (ret (Value.bool r.isSome)) _ _ _
 rw[hr]
 exact bV ⟨_,rfl,Jz (bV (h _ I'))⟩
theorem Sw {h':Heap} {t':Nat} {xs ys:List (PyData×Addr)} {ks':List PyData} (I:Inv X pins σ H s) (e:H a=some (Zf a xs)) (hs:Heap.SameBut a s.heap h') (n:SkP a ys h') (m:∀d,d∈ks'↔d∈ys.map (·.1)) (r:∀x∈ys,pX x.1/\At H x.1 (.ref x.2)) (l:ys.length<=ks'.length) :
  Inv X pins σ (upd H a (Zf a ys)) { s with heap:=h',toks:=t' }/\iM (upd H a (Zf a ys)) a ks':=by
 obtain⟨o,es,ep,t,S⟩:=id n
 refine⟨I.write (x:=a) (e:=a) (by rw[e]; exact True.intro) (.inl rfl) (fun b q hb z=>(hs.2 b hb).trans z) ⟨o,S.get⟩ (YD n),ys,aC,m,fun x hx=>⟨(r x hx).1,At.tupS (fun b xs hb=>?_) _ _ (mH _ (r x hx).1.k).2.2 (r x hx).2⟩,l⟩
 have nb:b≠a:=fun z=>by rw[z,e] at hb; cases hb
 rw[aR nb]; exact hb
theorem ZW {A:Around} {E:Value->Shared->Prop} {Q:Value->Shared->Prop} {d:PyData} {y:V} {u:Value} (hu:A.units+64<cLine) (I:Inv X pins σ H s) (n:iM H a ks) (hl:ks.length<1000) (ky:iI H d y) (ry:RelV y u) (h:∀H' s',g8 H a ks d H'->Inv X pins σ H' s'->Q .none s') :
  wpAny (model X.prog X.w) A (call (.builtin "set.add") [.ref a,u]) Q E s:=by
 obtain⟨b,rfl,rfl⟩:=ky.ref ry
 have hT:=(sV I n).1
 refine wQ F.slot_set_add hT F.entry_set_add ?_ (F.args_set_add_2 _ _)
 unfold Builtin.«set.add» Builtin.Frozenset.oneOther
 simp only[List.isEmpty_nil,bind_assoc]
 unfold Builtin.Frozenset.addrOf setAdd
 refine aW (bV ?_)
 try dsimp only
 refine aW (bV ?_)
 try dsimp only
 refine aW ?_
 refine pK ?_
 refine aW ((bF X.prog X.w).pyHash (pq hu) (rG I.hok ky.1 ky.2) ?_)
 have I':Inv X pins σ H { s with toks:=s.toks+(bF X.prog X.w).draws d }:=I.tok _
 obtain⟨xs,e,m,r,l,⟨o,es,ep,t,S⟩,hk⟩:=Sx I' n
 refine Zx (s:={ s with toks:=s.toks+(bF X.prog X.w).draws d }) (pq hu) S hk (rG I'.hok ky.1 ky.2) (by omega) fun rr h' o' es' ep' t' ys sb S' hy=>?_
 have fin:(∀z,z∈ks++[d]↔z∈ys.map (·.1))/\(∀x∈ys,pX x.1/\At H x.1 (.ref x.2))/\ys.length<=(ks++[d]).length:=by
  rw[gH]
  rcases hy with⟨hd,rfl⟩ | ⟨hd,pm⟩
  ·refine⟨fun z=>?_,r,by omega⟩
   rw[<- m z,m_,fH]
   exact⟨fun q=>q.elim id fun q=>by rw[q]; exact(m d).mpr hd,.inl⟩
  ·refine⟨fun z=>?_,fun x hx=>?_,?_⟩
   ·rw[(pm.map (·.1)).mem_iff,q_,bU,m_,fH,m z]
    exact⟨fun q=>q.elim .inr .inl,fun q=>q.elim .inr .inl⟩
   ·rcases bU.mp (pm.mem_iff.mp hx) with rfl | hx
    ·exact⟨ky.1,ky.2⟩
    ·exact r x hx
   ·rw[pm.length_eq,jF]; show xs.length+1<=ks.length+1; omega
 obtain⟨I2,n2⟩:=Sw (t':=s.toks+(bF X.prog X.w).draws d) I' e sb ⟨o',es',ep',t',S'⟩ fin.1 fin.2.1 fin.2.2
 show wpAny _ _ (ret Value.none) _ _ _
 exact bV ⟨_,rfl,h _ _ ⟨⟨_,rfl⟩,n2⟩ I2⟩
end
section
variable {X:Cx}
theorem Qe (hu:X.A.units+64<cLine):qJ X (compareOp .NotIn) (fun x y H Q=>∃a ks d,y=.ref a/\iM H a ks/\iI H d x/\Q (.bl (!decide (d∈ks))) H):=by
 refine .mk ?_
 intro pins s σ H x y v u Q I rx ry h
 obtain⟨a,ks,d,rfl,n,k,q⟩:=h
 cases ry
 exact Sy hu I n k rx fun s' I'=>⟨.bl _,H,I',rfl,q⟩
theorem RP (led:Bool):Q7 (.fresh 0 0 led) []:=by
 refine⟨rfl,fun a b x y h=>?_,rfl,fun i j h=>?_,⟨3,by decide,by decide,rfl⟩,by show 5*0<3*7; decide,fun i h j z=>by simp at z⟩
 ·have h:(#[]:Array Nat)[a]?=some x:=h
  simp at h
 ·have h:(#[]:Array Nat)[i]?=some j:=h
  simp at h
noncomputable def YJ:List V->Hp->VK->Prop:=fun vs H Q=>vs=[]/\∀p H',H p=none->aG H H'->iM H' p []->(∃φ,H'=upd H p (.ext φ))->Q (.ref p) H'
theorem QV:cV X (.type "set") YJ:=by
 refine .mk ?_
 intro pins s σ H vs us Q I r h
 obtain⟨rfl,q⟩:=h
 cases r
 refine call_set_0 fun led=>?_
 have hf:=I.hok.fresh (bI s.heap.objs.size)
 have n:SkP s.heap.objs.size [] (s.heap.push { cls:=.type "set",dict:=none,data:=.set #[] 0 (.fresh 0 0 led) }):=⟨_,#[],0,_,dJ _ rfl,⟨rfl,rfl,rfl⟩,rfl,rfl,RP led,List.nodup_nil⟩
 exact⟨.ref s.heap.objs.size,_,I.laid (a:=s.heap.objs.size) (o:=Zf s.heap.objs.size []) (t':=s.toks) (fun _ _ q=>dY _ q) (bI _) (YD n),rfl,q _ _ hf (aM hf _) ⟨[],aC,fun d=>by simp,fun x hx=>(nomatch hx),bI _⟩ ⟨_,rfl⟩⟩
noncomputable def Yr (to:TE) (t:TA):TE:=fun σ H Q=>to σ H fun x H1=>(∃a ks,x=.ref a/\iM H1 a ks)/\t σ H1 fun vs H2=>∃a ks y d,x=.ref a/\vs=[y]/\iM H2 a ks/\ks.length<1000/\iI H2 d y/\∀H3,g8 H2 a ks d H3->Q .non H3
theorem MK (hu:X.A.units+64<cLine) {o e:Expr} {to:TE} {t:TA} {apos cpos:Pos} (ho:PE X o to) (ha:PA X [e] t)
  (hbase:attributeBase o "add" X.env (eval o X.env)=eval o X.env:=by rfl)
  (hfew:((backTo cpos (starEach [e] X.env)).all (fun x=>!x.1)&&(backToKw cpos (keywordEach [] X.env)).all (fun x=>x.1.isSome)
   && decide (([e]:List Expr).length+([]:List Keyword).length+(if([]:List Keyword).isEmpty then 0 else 1)<30))=true:=by rfl)
  (hline:(apos.endLine==cpos.line)=true:=by rfl) (hs:starEach [e] X.env=(false,eval e X.env)::starEach [] X.env:=by rfl) (hplain:(backTo cpos (starEach [] X.env)).any (·.1)=false:=by rfl) :
  PE X (.Call (.Attribute o "add" apos) [e] [] cpos) (Yr to t):=by
 refine .mk ?_
 intro pins s σ H Q I h
 refine wpAny_Call_method_late hbase hfew hline rfl (cT (ho pins s σ H _ I h) fun v s1 qx=>?_)
 obtain⟨x,H1,I1,r1,⟨a,ks,ex,n⟩,q1⟩:=qx
 subst ex
 cases r1
 obtain⟨h1,h2⟩:=sV I1 n
 refine⟨"set","set.add",F.plainAttrs_set,F.slot_set_add,F.type_set_add,h1,h2,?_⟩
 have hA:=ha cpos pins s1 σ H1 _ I1 q1
 rw[hs] at hA ⊢
 refine Calls.callWith_builtin (by show(false || (backTo cpos (starEach [] X.env)).any (·.1))=false; rw[hplain] <;> rfl) (Calls.evalArgs_plain ?_)
 refine cT hA fun us s2 qx=>?_
 obtain⟨vs,H2,I2,r2,a',ks',y,d,e1,e2,n2,hl,ky,q2⟩:=qx
 cases e1
 subst e2
 obtain⟨u,rfl,ru⟩:=r2.one
 exact ZW hu I2 n2 hl ky ru fun H' s' p I'=>⟨.non,H',I',rfl,q2 H' p⟩
end
theorem aa_:bootBuiltins "set" = some (.type "set"):=by decide +kernel
section
variable {X:Cx} {pins:List (Addr×Obj)} {σ:St} {H1:Hp} {s1 s':Shared}
end
section
variable {P:Program} {w:World} {K:PySem.W.Frag} {mg:Str->Option Value} {base:Heap}
theorem uX.okE {x qual:Str} {st:Stmt} {f T:Addr} {i:Int} {t:Tok} {fd:FuncData} {N ps:List Str} {k:Nat} {sp:Sp} (F:uX K x qual st f fd T i t) (S:bf N ps (aK st)) (len:∀vs H Q E,sp vs H Q E->vs.length=ps.length)
  (hbody:∀(cdv:Value) (A:Around) (outer:List Env) (s:Shared) (H:Hp) (vs:List V) (Q:VK) (E:XK),lZ P w H s.heap->jb k (A.deeper (envOfC qual (aK st) s.heap.objs.size f cdv))->sp vs H Q E ->
   ∃t,zV (ig (nu P w) P w K mg base N qual (aK st) f cdv A outer s H E) (dI st) t/\t { nx:=fun _ H'=>Q .non H',rt:=Q } (start N vs) H):bZ P w K mg base (nu P w) (k+1) f fd ps sp:=by
 obtain⟨oc,od,kV,doc,pm,an,cdv,ct,osl,rfl,lk,hcd⟩:=F.ex
 exact U6 lk hcd S len fun A outer s H vs Q E QG hr hsp=>hbody cdv A outer s H vs Q E QG hr hsp
structure VM (P:Program) (w:World) (K:PySem.W.Frag) (mg:Str->Option Value) (base:Heap) (k:Nat) (x:Str) (ps:List Str) (i:Int) (sp:Sp) where
 f:Addr
 fd:FuncData
 t:Tok
 G:bZ P w K mg base (nu P w) k f fd ps sp
 kp:PySem.W.keepIn K (.ref f)=true
 b:Binds K fd ps []
 bd:Binds K fd ps [.int i t]
 m:mg x=some (.ref f)
noncomputable def VM.mono {j k:Nat} {x:Str} {ps:List Str} {i:Int} {sp:Sp} (c:VM P w K mg base j x ps i sp) (h:j<=k):VM P w K mg base k x ps i sp:={ c with G:=c.G.mono h }
noncomputable def VM.all {k:Nat} {x:Str} {ps:List Str} {i:Int} {sp:Sp} (c:VM P w K mg base k x ps i sp):Vz P w K mg base k x ps sp:=⟨c.f,c.fd,c.G,c.kp,c.b,c.m⟩
noncomputable def Vy.ctF {x:Str} {st:Stmt} {ps:List Str} {i:Int} {k:Nat} {sp:Sp} (h:Vy K mg x st ps i) (P:Program) (w:World) (base:Heap) (G:bZ P w K mg base (nu P w) k h.f h.fd ps sp):VM P w K mg base k x ps i sp:=⟨h.f,h.fd,h.t,G,h.F.kp,h.b,h.bd,h.m⟩
end
section
variable {X:Cx}
end
section
variable {X:Cx}
noncomputable def YH:List V->Hp->VK->Prop:=fun vs H Q=>∃j:Int,vs=[.int j]/\-(2 ^ 62)<=j/\j<2 ^ 62/\∀p H',H p=none->aG H H'->H' p=some (.Wu 0 j)->Q (.ref p) H'
theorem QT:cV X (.type "range") YH:=by
 refine .mk ?_
 intro pins s σ H vs us Q I r h
 obtain⟨j,rfl,h1,h2,q⟩:=h
 obtain⟨u,rfl,t,rfl⟩:=r.one
 refine call_range_1 ?_
 have hf:=I.hok.fresh (bI s.heap.objs.size)
 exact⟨.ref s.heap.objs.size,_,I.laid (a:=s.heap.objs.size) (o:=.Wu 0 j) (fun _ _ q=>dY _ q) (bI _) (show cz X.prog X.w _ _ _ (.Wu 0 j) from⟨_,_,_,dJ _ rfl⟩),rfl,q _ _ hf (aM hf _) aC⟩
noncomputable def YK:List V->Hp->VK->Prop:=fun vs H Q=>∃(p:Addr) (j:Int),vs=[.ref p]/\H p=some (.Wu 0 j)/\-(2 ^ 62)<=j/\j<2 ^ 62/\j.toNat<=1000/\∀l H',H l=none->aG H H'->H' l=some (.lst ((List.range j.toNat).map fun i:Nat=>V.int i))->Q (.ref l) H'
theorem QX (hd:X.A.handled=none):cV X (.type "list") YK:=by
 refine .mk ?_
 intro pins s σ H vs us Q I r h
 obtain⟨p,j,rfl,hp,h1,h2,h3,q⟩:=h
 obtain⟨u,rfl,ru⟩:=r.one
 cases ru
 obtain⟨t,u,v,e⟩:=(show cz X.prog X.w H s.heap p (.Wu 0 j) from I.hok p _ hp)
 have e2:Builtin.Range.rangeSize 0 j 1=(j.toNat:Nat):=by rw[rangeSize_one]; split <;> omega
 refine call_list_range (n:=j.toNat) hd (show IsRange s.heap p 0 j 1 t u v from e) (small_one (by omega) (by omega) h1 h2) e2 (by omega) fun h' tk acc c' kp el it=>?_
 have hf:=I.hok.fresh (bI s.heap.objs.size)
 have hz:((List.range j.toNat).map fun i:Nat=>V.int i).length<=sizeLine:=by
  rw[bM,Be,sizeLine_eq]; omega
 have vl:Vals ((List.range j.toNat).map fun i:Nat=>V.int i) acc.toList:=by
  have key:∀(n k:Nat) (l:List Value),l.length=n->(∀(i:Nat) (v:Value),l[i]?=some v->∃t,v=Value.int ((k+i:Nat):Int) t)->Vals ((List.range' k n).map fun i:Nat=>V.int i) l:=by
   intro n
   induction n with
   | zero=>
    intro k l hl _
    rw[Td.mp hl]
    exact .nil
   | succ n ih=>
    intro k l hl hv
    match l,hl with
    | x::l,hl=>
     obtain⟨t,rfl⟩:=hv 0 x rfl
     rw[List.range'_succ]
     refine .cons ⟨t,rfl⟩ (ih (k+1) l (by simpa using hl) fun i v h=>?_)
     obtain⟨t,rfl⟩:=hv (i+1) v h
     exact⟨t,by rw[show k+(i+1)=k+1+i by omega]⟩
  rw[List.range_eq_range']
  refine key _ 0 _ (by rw[nj]; exact it.1) fun i v h=>?_
  rw[Gu] at h
  obtain⟨t,rfl⟩:=it.2 i v h
  exact⟨t,by simp⟩
 exact⟨.ref s.heap.objs.size,_,I.laid (a:=s.heap.objs.size) (o:=.lst ((List.range j.toNat).map fun i:Nat=>V.int i)) (t':=tk) kp (bI _) (show cz X.prog X.w _ h' _ (.lst _) from⟨hz,acc.toList,c',vl,el⟩),rfl,q _ _ hf (aM hf _) aC⟩
end
noncomputable def iOr (a b:TI):TI:=fun σ H R=>a σ H R\/b σ H R
theorem PI.or {X:Cx} {tg it:Expr} {a b:TI} (h:PI X tg it a) (h':PI X tg it b):PI X tg it (iOr a b):=.mk fun pins s σ H R I q=>q.elim (h pins s σ H R I) (h' pins s σ H R I)
theorem Ad {nt:Nat} {js:List Nat} {a b:TI} {g:TG} {tc:TT} {te:TE} {σ:St} {H:Hp} {Q:VK}:eV nt js (iOr a b) g tc te σ H Q=(eV nt js a g tc te σ H Q\/eV nt js b g tc te σ H Q):=rfl
theorem WW {X:Cx} {K:PySem.W.Frag} {e e':Expr} {elts:List Expr} {x1} {tp p pos:Pos} {ta:TA} (hK:X.K=K) (hm:X.mg "zip" = none) (ha:PA X [e,e'] ta) (hg:Gl X "zip" := by rfl) (h1:cD e=true:=by rfl) (h2:cD e'=true:=by rfl) :
  PI X (.Tuple elts x1 tp) (.Call (.Name "zip" p) [e,e'] [] pos) (iOr (HH K ta) (NK K ta)):=.or (oY hK hm ha hg h1 h2) (Mz hK hm ha hg h1 h2)
noncomputable def tZ (ns:List Int) (i:Int) (j:Nat):Prop:=ns[j]?=some i/\∀m,m<j->ns[m]?≠some i
noncomputable def acK:V->List V->Hp->VK->Prop:=fun x xs H Q=>∃(p:Addr) (ns:List Int) (i:Int) (j:Nat),x=.ref p/\H p=some (.lst (ns.map V.int))/\xs=[.int i]/\ns.length<=1000/\tZ ns i j/\Q (.int (j:Nat)) H
section
variable {X:Cx}
theorem Fx {xs:List V}:∀{us:List Value},Vals xs us->∀{j:Nat} {x:V},xs[j]?=some x->∃u,us[j]?=some u/\RelV x u:=by
 induction xs with
 | nil=>intro us _ j x h; simp at h
 | cons y ys ih=>
  intro us r j x h
  cases r with
  | cons r1 r2=>
   cases j with
   | zero=>simp at h; subst h; exact⟨_,rfl,r1⟩
   | succ j=>simp at h; obtain⟨u,h1,h2⟩:=ih r2 h; exact⟨u,by simpa using h1,h2⟩
noncomputable def Ny (i:Int):Value->Bool
 | .int a _=>a==i
 | _=>false
theorem Aa {xs:List V}:∀{us:List Value},Vals xs us->∀{j:Nat} {u:Value},us[j]?=some u->∃x,xs[j]?=some x/\RelV x u:=by
 induction xs with
 | nil=>intro us r j u h; cases r; simp at h
 | cons y ys ih=>
  intro us r j x h
  cases r with
  | cons r1 r2=>
   cases j with
   | zero=>simp at h; subst h; exact⟨_,rfl,r1⟩
   | succ j=>simp at h; obtain⟨u,h1,h2⟩:=ih r2 h; exact⟨u,by simpa using h1,h2⟩
theorem xM:MtR X "list.index" acK:=by
 intro pins s σ H x xs v us Q I rx rv h
 obtain⟨p,ns,i,j,rfl,hp,rfl,hl,⟨hj,hno⟩,q⟩:=h
 cases rx
 obtain⟨u,rfl,tk,rfl⟩:=rv.one
 obtain⟨_,its,n,r,e⟩:=I.hok p _ hp
 have back:∀{m:Nat} {u:Value},its[m]?=some u->∃a k,ns[m]?=some a/\u=.int a k:=fun {m u} hm=>by
  obtain⟨x,h1,h2⟩:=Aa r hm
  rw[fQ] at h1
  cases ha:ns[m]? with
  | none=>rw[ha] at h1; cases h1
  | some a=>
   rw[ha] at h1
   cases h1
   obtain⟨k,rfl⟩:=(h2:∃tk,u=Value.int a tk)
   exact⟨a,k,rfl,rfl⟩
 have ee:∀y,y∈its.toArray->SeqAt.EqAt X.A.in1 s y (.int i tk) (Ny i y):=fun y hy=>by
  obtain⟨m,hm⟩:=Gw.mp (Mi.mp hy)
  obtain⟨a,k,_,rfl⟩:=back hm
  exact SeqAt.EqAt.int_int _ _ _ _
 obtain⟨u,hu,k,rfl⟩:=Fx r (x:=.int i) (by rw[fQ,hj]; rfl)
 have hlt:j<its.length:=(fj.mp hu).1
 have hlen:its.length=ns.length:=by rw[<- r.length,bM]
 refine call_meets PySem.F.slot_list_index ⟨_,e,rfl⟩ PySem.F.entry_list_index (PySem.F.args_list_index_2 _ _) (SeqAt.list_indexAt p its.toArray n none #[] (.int i tk) (Ny i) j (by simpa using hlt) (by omega) ?_ ?_) ⟨e,ee,?_⟩
 ·have:=(fj.mp hu).2
  show Ny i its[j]=true
  rw[this]
  show(i==i)=true
  simp
 ·intro m hm h
  have hm':m<its.length:=by simpa using hm
  obtain⟨a,k2,h1,h2⟩:=back (fD hm')
  show Ny i its[m]=false
  rw[h2]
  show(a==i)=false
  have:=hno m h
  rw[h1] at this
  simp at this ⊢
  exact this
 ·exact⟨.int (j:Nat),H,I.tok _,⟨_,rfl⟩,q⟩
end
noncomputable def ZKL (K:PySem.W.Frag) (g:TG) (tb:TS) (D:Ends) (σ:St) (vs:List V) (H1:Hp):Prop:=∃a b,vs=[.ref a,.ref b]/\(∃xs,dh K H1 a xs)/\(∃ys,dh K H1 b ys)/\∃W:Nat->Nat->St->Hp->Prop,(∃m,W 0 m σ H1)/\∀i m σ H,W i m σ H ->
 ((Vx K a b).stop i H/\D.nx σ H)\/((Vx K a b).go i H/\∃N:St->Hp->Prop,(∀σ' H',N σ' H'->∃m',m'<m/\W (i+1) m' σ' H')/\∀x H',(Vx K a b).vH i H x H'->g x σ H' fun σ2 H2=>tb { D with nx:=N,ct:=N,bk:=D.nx } σ2 H2)
theorem O5 {K:PySem.W.Frag} {ta:TA} {g:TG} {tb:TS} {D:Ends} {σ:St} {H:Hp}:yS (NK K ta) g tb D σ H=ta σ H (ZKL K g tb D σ):=rfl
theorem ZKL.of {K:PySem.W.Frag} {g:TG} {tb:TS} {D:Ends} {σ:St} {H:Hp} {a b:Addr} {xs ys:List V} (ha:H a=some (.lst xs)) (hb:H b=some (.lst ys)) (hn:xs.length=ys.length) (Pv:Nat->St->Hp->Prop) (h0:Pv 0 σ H) (hl:∀i σ H',i<=xs.length->Pv i σ H'->H' a=some (.lst xs)/\H' b=some (.lst ys))
  (hs:∀i x y σ H p,xs[i]?=some x->ys[i]?=some y->Pv i σ H->H p=none->g (.ref p) σ (upd H p (.tup [x,y])) fun σ2 H2=>tb { D with nx:=Pv (i+1),ct:=Pv (i+1),bk:=D.nx } σ2 H2) (hd:∀σ H,Pv xs.length σ H->D.nx σ H):ZKL K g tb D σ [.ref a,.ref b] H:=by
 refine⟨a,b,rfl,⟨xs,dh.of ha⟩,⟨ys,dh.of hb⟩,fun i m σ H=>m=xs.length-i/\i<=xs.length/\Pv i σ H,⟨_,rfl,e_ _,h0⟩,?_⟩
 rintro i m σ H ⟨rfl,hi,p⟩
 have q:dh K H a xs:=dh.of (hl i σ H hi p).1
 have q2:dh K H b ys:=dh.of (hl i σ H hi p).2
 by_cases hlt:i<xs.length
 ·have hlt':i<ys.length:=by omega
  refine .inr ⟨⟨xs,ys,xs[i],ys[i],q,q2,fD hlt,fD hlt'⟩,Pv (i+1),fun σ' H' p'=>⟨xs.length-(i+1),by omega,rfl,hlt,p'⟩,fun x H' y=>?_⟩
  obtain⟨t,z,z',ht,rfl,rfl,hz,hz'⟩:=y
  exact hs i z z' σ H t (hz xs q) (hz' ys q2) p ht
 ·have e:i=xs.length:=by omega
  subst e
  exact .inl ⟨⟨xs,ys,q,q2,.inl rfl⟩,hd σ H p⟩
noncomputable def aa3 (bs:List Bool) (j:Nat):Prop:=bs[j]?=some true/\∀m,m<j->bs[m]?≠some true
noncomputable def acL:V->List V->Hp->VK->Prop:=fun x xs H Q=>∃(p:Addr) (bs:List Bool) (j:Nat),x=.ref p/\H p=some (.lst (bs.map V.bl))/\xs=[.bl true]/\bs.length<=1000/\aa3 bs j/\Q (.int (j:Nat)) H
noncomputable def acN:V->List V->Hp->VK->Prop:=fun x xs H Q=>∃(p:Addr) (bs:List Bool),x=.ref p/\H p=some (.lst (bs.map V.bl))/\xs=[.bl true]/\Q (.int ((bs.countP id:Nat):Int)) H
section
variable {X:Cx}
noncomputable def Ew:Value->Bool
 | .bool b=>b
 | _=>false
theorem Eu {bs:List Bool} {its:List Value} (r:Vals (bs.map V.bl) its) {m:Nat} {u:Value} (hm:its[m]?=some u):∃b,bs[m]?=some b/\u=.bool b:=by
 obtain⟨x,h1,h2⟩:=Aa r hm
 rw[fQ] at h1
 cases ha:bs[m]? with
 | none=>rw[ha] at h1; cases h1
 | some a=>
  rw[ha] at h1
  cases h1
  exact⟨a,rfl,h2⟩
theorem Zc {A:Around} {s:Shared} (b:Bool):SeqAt.EqAt A s (.bool b) (.bool true) (Ew (.bool b)):=by
 have:=SeqAt.EqAt.bool_bool (A:=A) (s:=s) b true
 have e:(b==true)=Ew (.bool b):=by cases b <;> rfl
 rw[e] at this
 exact this
theorem JZ:MtR X "list.index" acL:=by
 intro pins s σ H x xs v us Q I rx rv h
 obtain⟨p,bs,j,rfl,hp,rfl,hl,⟨hj,hno⟩,q⟩:=h
 cases rx
 obtain⟨u,rfl,ru⟩:=rv.one
 cases(ru:u=.bool true)
 obtain⟨_,its,n,r,e⟩:=I.hok p _ hp
 have ee:∀y,y∈its.toArray->SeqAt.EqAt X.A.in1 s y (.bool true) (Ew y):=fun y hy=>by
  obtain⟨m,hm⟩:=Gw.mp (Mi.mp hy)
  obtain⟨b,_,rfl⟩:=Eu r hm
  exact Zc b
 obtain⟨u,hu,ru⟩:=Fx r (x:=.bl true) (by rw[fQ,hj]; rfl)
 cases(ru:u=.bool true)
 have hlt:j<its.length:=(fj.mp hu).1
 have hlen:its.length=bs.length:=by rw[<- r.length,bM]
 refine call_meets PySem.F.slot_list_index ⟨_,e,rfl⟩ PySem.F.entry_list_index (PySem.F.args_list_index_2 _ _) (SeqAt.list_indexAt p its.toArray n none #[] (.bool true) Ew j (by simpa using hlt) (by omega) ?_ ?_) ⟨e,ee,?_⟩
 ·have:=(fj.mp hu).2
  show Ew its[j]=true
  rw[this]
  rfl
 ·intro m hm h
  have hm':m<its.length:=by simpa using hm
  obtain⟨b,h1,h2⟩:=Eu r (fD hm')
  show Ew its[m]=false
  rw[h2]
  show b=false
  have:=hno m h
  rw[h1] at this
  simpa using this
 ·exact⟨.int (j:Nat),H,I.tok _,⟨_,rfl⟩,q⟩
theorem Vh:∀{bs:List Bool} {its:List Value},Vals (bs.map V.bl) its->its.countP Ew=bs.countP id
 | [],_,.nil=>rfl
 | b::bs,_,.cons r t=>by
  cases(r:_=Value.bool b)
  rw[List.countP_cons,List.countP_cons,Vh t]
  rfl
theorem J0:MtR X "list.count" acN:=by
 intro pins s σ H x xs v us Q I rx rv h
 obtain⟨p,bs,rfl,hp,rfl,q⟩:=h
 cases rx
 obtain⟨u,rfl,ru⟩:=rv.one
 cases(ru:u=.bool true)
 obtain⟨_,its,n,r,e⟩:=I.hok p _ hp
 have ee:∀y,y∈its.toArray->SeqAt.EqAt X.A.in1 s y (.bool true) (Ew y):=fun y hy=>by
  obtain⟨m,hm⟩:=Gw.mp (Mi.mp hy)
  obtain⟨b,_,rfl⟩:=Eu r hm
  exact Zc b
 refine call_meets PySem.F.slot_list_count ⟨_,e,rfl⟩ PySem.F.entry_list_count (PySem.F.args_list_count_2 _ _) (SeqAt.list_countAt p its.toArray n none #[] (.bool true) Ew) ⟨e,ee,?_⟩
 exact⟨.int ((bs.countP id:Nat):Int),H,I.tok _,⟨s.toks,by rw[<- Vh r]⟩,q⟩
end
section
variable {X:Cx}
end
section
variable {X:Cx}
end
section
variable {X:Cx}
end
section
variable {prog:Program} {w:World} {A:Around} {E:Value->Shared->Prop} {s:Shared}
end
structure aei (H:Hp) (xs:List V) (kvs:List (PyData×V)):Prop where
 n:xs.length=kvs.length
 p:∀(i:Nat) (x:V) (q:PyData×V),xs[i]?=some x->kvs[i]?=some q->∃t y,x=.ref t/\H t=some (.tup [y,q.2])/\iI H q.1 y
theorem Tq (kvs:List (PyData×V)) (k:PyData) (v:V):(putK kvs k v).length<=kvs.length+1:=by
 unfold putK
 split
 ·rw[bM]; omega
 ·rw[gH]; exact bI _
section
variable {X:Cx} {pins:List (Addr×Obj)} {σ:St}
end
section
variable {X:Cx}
end
end L2
namespace K85
open PySem L2
noncomputable def top (i:Nat):Stmt:=PySem.Challenge.pw_waithands_k85_whole_broken_loads_the_sho.main.body.getD i (.Pass ⟨0,0,0,0⟩)
noncomputable abbrev wy:Stmt:=top 6
noncomputable abbrev l_:Stmt:=top 7
noncomputable abbrev Jp:Stmt:=top 8
noncomputable abbrev km:Stmt:=top 9
noncomputable abbrev Jo:Stmt:=top 11
noncomputable abbrev nR:Stmt:=top 12
noncomputable abbrev p_:Stmt:=top 13
noncomputable abbrev qg:Stmt:=top 16
noncomputable abbrev Jq:Stmt:=top 18
noncomputable abbrev iQ:Stmt:=top 19
noncomputable abbrev nW:Stmt:=top 20
noncomputable abbrev j_:Stmt:=top 21
noncomputable abbrev nQ:Stmt:=top 22
noncomputable abbrev nY:Stmt:=top 35
noncomputable abbrev nU:Stmt:=top 36
noncomputable abbrev kh:Stmt:=top 37
noncomputable abbrev SN:Stmt:=top 43
noncomputable abbrev wu:Stmt:=top 44
noncomputable abbrev kj:Stmt:=top 45
noncomputable abbrev wg:Stmt:=top 46
noncomputable abbrev kE:Stmt:=top 47
noncomputable abbrev kI:Stmt:=top 48
noncomputable abbrev my:Stmt:=top 49
noncomputable abbrev wz:Stmt:=top 50
noncomputable abbrev wH:Stmt:=top 51
noncomputable abbrev mz:Stmt:=top 52
noncomputable abbrev sZ:Stmt:=top 53
noncomputable abbrev wC:Stmt:=top 55
noncomputable abbrev wF:Stmt:=top 56
noncomputable abbrev qe:Stmt:=top 57
noncomputable abbrev C_:Stmt:=top 58
noncomputable abbrev jD:Stmt:=top 59
noncomputable abbrev jl:Stmt:=top 60
noncomputable abbrev tE:Stmt:=top 61
noncomputable abbrev mj:Stmt:=top 62
noncomputable abbrev wB:Stmt:=top 63
noncomputable abbrev wG:Stmt:=top 64
noncomputable abbrev wD:Stmt:=top 65
noncomputable abbrev qb:Stmt:=top 66
noncomputable abbrev qU:Stmt:=top 67
noncomputable abbrev tG:Stmt:=top 68
noncomputable abbrev qd:Stmt:=top 69
noncomputable abbrev tu:Stmt:=top 70
noncomputable abbrev tH:Stmt:=top 71
noncomputable abbrev wA:Stmt:=top 72
structure Bi (mg:Str->Option Value):Prop where
 tuple:mg "tuple" = none
 max:mg "max" = none
 min:mg "min" = none
 enumerate:mg "enumerate" = none
 zip:mg "zip" = none
 sum:mg "sum" = none
 list:mg "list" = none
 reversed:mg "reversed" = none
 range:mg "range" = none
 len:mg "len" = none
 set:mg "set" = none
 abs:mg "abs" = none
 int:mg "int" = none
 isinstance:mg "isinstance" = none
 str:mg "str" = none
 all:mg "all" = none
 bool:mg "bool" = none
 ValueError:mg "ValueError" = none
structure Co (K:PySem.W.Frag) (mg:Str->Option Value):Prop where
 Zd:GT2 K mg "WHATS" RD
 OVER:Gs mg "OVER" "over"
 UNDER:Gs mg "UNDER" "under"
 EACH:Gs mg "EACH" "each"
 abm:Gi mg "MOST_HANDS" 12
 E_:Gi mg "TRIPLES_SEEN" 3
 LIMIT:Gi mg "LIMIT" 300
 Cd:Gi mg "MOST_COME" 23
 KEPT:Gs mg "KEPT" "kept"
 BROKEN:Gs mg "BROKEN" "broken"
local macro_rules | `(tactic| walk_at "o")=>`(tactic| first | exact Or.inl rfl | exact Or.inr rfl)
local macro_rules | `(tactic| walk_at "c")=>`(tactic| exact⟨rfl,rfl,rfl,by decide +kernel,rfl,by decide +kernel,by decide +kernel⟩)
local macro_rules | `(tactic| walk_at "rd")=>`(tactic| simp only[L2.start,q_,List.map_nil,jF,GR,Nat.reduceAdd,Nat.reduceSub,List.replicate,Mh,Az,lJ,
 RX,We,acg,acf,Yt,FQ,eU,Yw,Ww,Wv,S6,WD,if_true,if_false,jw,wL,Bool.not_false,Wz,Wy,aaa,Z8,Z_,Z7,WK,WL,S8,Wx,Z9,acG,tC,R1,tUn,WM,rI,rU,RW,acq,tOr,acn,Yy,acj,ack,tIf,qL,ZJ,Lg,Wd,tB,ZG,tSl,Lf,Ys,adl,aci,aco,aeu,Yv,RV,tBM,acp,ach,Yx,ipI,Yu,ZF,tFv,tJs,tJ1,tJ0,aev,R4,RZ,xPe,Yn,xIf,ab9,aca,ab_,xPs,aet,Yr,YJ,YH,YK])
section
variable {P:Program} {w:World} {K:PySem.W.Frag} {mg:Str->Option Value} {base:Heap} {f:Addr} {fd:FuncData} {k:Nat}
theorem xm {X:Cx}:qJ X (binaryOp .FloorDiv) (rI (fun _ j=>0<j/\j<10 ^ 60) fun i j=>.int (i / j)):=opI fun i j _ _ _ _ _ hc q=>by
 have h1:(0:Int)<j:=hc.1
 have h2:j<10 ^ 60:=hc.2
 refine PyProof.Rows.floordiv_int (by omega) (by rw[Int.fdiv_eq_ediv_of_nonneg i (by omega)]; exact q) (.inl (PyProof.noPylong_of_log2 ?_))
 have:j.natAbs<10 ^ 60:=by omega
 by_cases z:j.natAbs=0
 ·omega
 ·have h3:j.natAbs<2 ^ 1000:=GC this (by decide +kernel)
  have:=(Nat.log2_lt z).mpr h3
  omega
structure fP where
 w:Str
 s:Nat
 g:Str
 n:Int
 t:Int
noncomputable def qi (r:fP):PyData:=.tuple [.str r.w,.int r.s,.str r.g,.int r.n,.int r.t]
noncomputable def qY (rs:List fP):PyData:=.tuple (rs.map qi)
noncomputable def Js (eN:List (List fP)):PyData:=.tuple (eN.map qY)
structure oV (r:fP):Prop where
 w:r.w∈(["come","done","wait"]:List Str)
 s:1<=r.s/\r.s<=4
 n:0<=r.n/\r.n<=1000000000000000000000000000000
 e:r.g = "each" -> 1<=r.n
noncomputable def dw (l:List Int):PyData:=.tuple (l.map .int)
noncomputable def Jd (cI:List (List Int)):PyData:=.tuple (cI.map dw)
structure lC (cI:List (List Int)):Prop where
 n:cI.length=4
 l:∀x∈cI,x.length=3
noncomputable def um (w:Str) (s:Nat) (cI:List (List Int)):Int:=((cI.take s).map fun l=>l.getD (dZ w) 0).sum
noncomputable def says (r:fP) (h:Int) (cI:List (List Int)):Option Int:=
 if r.g = "each" then some ((um r.w r.s cI+r.n*r.s-1) / (r.n*r.s))
 else if(r.g = "over" /\ um r.w r.s cI>r.n*r.s)\/(r.g = "under" /\ um r.w r.s cI<r.n*r.s) then some (h+r.t) else none
noncomputable def qT:Option Int->V
 | none=>.non
 | some i=>.int i
noncomputable def fZ (h:Int) (cI:List (List Int)):List fP->Int
 | []=>h
 | r::rs=>match says r h cI with
  | some i=>i
  | none=>fZ h cI rs
noncomputable def topOf (h:Int):List Int->Int
 | []=>h
 | b::r=>fO b r
noncomputable def jW (eN:List (List fP)) (l m h:Int) (cI:List (List Int)):Int:=
 let x:=topOf h (eN.map (fZ h cI))
 let y:=if l>x then l else x
 if m<y then m else y
theorem sH (w:Str):dZ w<3:=by
 unfold dZ
 split
 ·decide
 ·split <;> decide
theorem bx {H:Hp} {ds:List PyData} {v:V} (h:At H (.tuple ds) v):∃a xs,v=.ref a/\H a=some (.tup xs)/\ak H ds xs:=by unfold At at h; exact h
theorem ak.bA {H:Hp} {d:PyData} {ds:List PyData} {xs:List V} (h:ak H (d::ds) xs):∃x r,xs=x::r/\At H d x/\ak H ds r:=by unfold ak at h; exact h
theorem ak.nD {H:Hp} {xs:List V} (h:ak H [] xs):xs=[]:=by unfold ak at h; exact h
theorem cu {G:Hp}:∀{cs:List Int} {xs:List V},ak G (cs.map PyData.int) xs->xs=cs.map V.int
 | [],xs,h=>by unfold ak at h; exact h
 | c::cs,xs,h=>by
  obtain⟨x,r,rfl,h1,h2⟩:=ak.bA h
  unfold At at h1
  rw[h1,cu h2]; rfl
theorem bw {H:Hp}:∀cs:List Int,ak H (cs.map .int) (cs.map V.int)
 | []=>ak.nil
 | c::cs=>ak.cons (At.int c) (bw cs)
theorem row_shape {H:Hp} {r:fP} {v:V} (h:At H (qi r) v):∃a,v=.ref a/\H a=some (.tup [.str r.w,.int r.s,.str r.g,.int r.n,.int r.t]):=by
 obtain⟨a,xs,rfl,h1,h2⟩:=bx h
 obtain⟨x1,_,rfl,a1,h2⟩:=ak.bA h2
 obtain⟨x2,_,rfl,a2,h2⟩:=ak.bA h2
 obtain⟨x3,_,rfl,a3,h2⟩:=ak.bA h2
 obtain⟨x4,_,rfl,a4,h2⟩:=ak.bA h2
 obtain⟨x5,_,rfl,a5,h2⟩:=ak.bA h2
 cases ak.nD h2
 unfold At at a1 a2 a3 a4 a5
 subst a1 a2 a3 a4 a5
 exact⟨a,rfl,h1⟩
theorem Od {K:PySem.W.Frag} {js:List Nat} {a:Addr} {xs:List V} {ds:List PyData} {f:Nat->Int} {tl te:TE} {σ:St} {H:Hp} {Q:VK} (hl:∀R:VK,R (.ref a) H->tl σ H R) (ha:H a=some (.tup xs)) (hd:ak H ds xs) (hz:ds.length<=sizeLine)
  (step:∀(i:Nat) x d H',aG H H'->ds[i]?=some d->At H' d x->∀R:VK,(∀cY,aG H' cY->R (.int (f i)) cY)->te (some x::b7 js σ) H' R)
  (fin:∀acc H',aG H H'->H' acc=some (.lst (((List.range ds.length).map f).map V.int))->Q (.ref acc) H'):ir js (xZ K tl) te σ H Q:=by
 refine hl _ ⟨a,rfl,⟨xs,cB.of ha⟩,fun acc hacc=>?_⟩
 have hlen:=hd.length
 refine⟨fun i m ys H2=>m=ds.length-i/\i<=ds.length/\ys=((List.range i).map f).map V.int/\aG H H2/\H2 acc=some (.lst ys),⟨_,rfl,e_ _,rfl,aM hacc _,aC⟩,?_⟩
 rintro i m ys H2 ⟨rfl,hi,rfl,sm,hy⟩
 have ht:cB K H2 a xs:=cB.of (sm _ _ ha)
 by_cases hlt:i<ds.length
 ·refine .inr ⟨⟨xs,xs[i]'(by omega),ht,fD (by omega)⟩,fun x H3 y=>?_⟩
  obtain⟨e,y⟩:=y
  subst e
  obtain⟨d,e1,e2⟩:=hd.get (y xs ht)
  refine step i x d _ sm e1 (e2.mono sm) _ fun H4 s4=>⟨s4 _ _ hy,?_,ds.length-(i+1),by omega,rfl,hlt,?_,?_,aC⟩
  ·rw[bM,bM,Be]; omega
  ·rw[GZ]; simp
  ·refine fun b o q=>?_
   have nb:b≠acc:=bQ q hacc
   rw[aR nb]
   exact s4 _ _ (sm _ _ q)
 ·have e:i=ds.length:=by omega
  subst e
  exact .inl ⟨⟨xs,ht,by omega⟩,fin _ _ sm hy⟩
noncomputable def CT (K:PySem.W.Frag) (js:List Nat) (te:TE) (σ:St) (Q:VK) (x:V) (H1:Hp):Prop:=ir js (xZ K (fun _ H R=>R x H)) te σ H1 Q
theorem Ac {K:PySem.W.Frag} {js:List Nat} {tl te:TE} {σ:St} {H:Hp} {Q:VK}:ir js (xZ K tl) te σ H Q=tl σ H (CT K js te σ Q):=rfl
noncomputable def Jk:Sp:=fun vs H Q _=>∃(v u:V) (h:Int) (r:fP) (cI:List (List Int)),vs=[v,.int h,u]/\At H (qi r) v/\At H (Jd cI) u/\oV r/\lC cI/\∀H',aG H H'->Q (qT (says r h cI)) H'
theorem agf.of {v u:V} {h:Int} {r:fP} {cI:List (List Int)} {H:Hp} {Q:VK} {E:XK} (a1:At H (qi r) v) (a2:At H (Jd cI) u) (h1:oV r) (h2:lC cI) (q:∀H',aG H H'->Q (qT (says r h cI)) H'):Jk ([v,.int h,u]++[]) H Q E:=⟨v,u,h,r,cI,rfl,a1,a2,h1,h2,q⟩
theorem yU {cI:List (List Int)} {w:Str} {s:Nat}:((List.range (cI.take s).length).map fun i=>((cI.take s).getD i []).getD (dZ w) 0).sum=um w s cI:=by
 unfold um
 congr 1
 generalize cI.take s=l
 apply G7
 ·simp
 ·intro i h1 h2
  simp at h1 h2
  simp[gC,h2]
theorem uq:bf ["row","hands","newest","what","span","sign","number","step","place","total","mark"] ["row","hands","newest"] (aK p_):=(by walk_at "c")
theorem Hl (F:jr K "row_says" "row_says" p_ f fd) (B:Bi mg) (O:Co K mg):bZ P w K mg base jj (k+1) f fd ["row","hands","newest"] Jk:=by
 refine F.ok uq (by rintro vs H Q E ⟨v,u,h,r,cI,rfl,_⟩; rfl) (fun cdv A outer s H vs Q E hr h=>?_)
 obtain⟨v,u,h,r,cI,rfl,a1,a2,hR,hN,q⟩:=h
 have ND:=uq.nd
 refine⟨_,(aq (cL (pv 0) (bH (K:=K) (n:=5) rfl rfl (aD (aF (i:=3) ND rfl (by walk_at "o")) (aD (aF (i:=4) ND rfl (by walk_at "o")) (aD (aF (i:=5) ND rfl (by walk_at "o")) (aD (aF (i:=6) ND rfl (by walk_at "o")) (aD (aF (i:=7) ND rfl (by walk_at "o")) bG))))))) (aq (aZ (i:=8) ND rfl (by walk_at "o") (gJ (K:=K) rfl PySem.F.plainAttrs_tuple PySem.F.slot_tuple_index PySem.F.type_tuple_index (Qw (K:=K) rfl) (MF (K:=K) rfl O.Zd) (aa (pv 3) aj))) (aq (aZ (i:=9) ND rfl (by walk_at "o") (pb (pH rfl) B.sum Es (aa (jY (N':=["triple","place"]) (js:=[8]) rfl (fU (K:=K) rfl (cZ gB (pv 2) eX (du (pv 4)))) yP.mk1 rfl (by decide) rfl (fun fp s' H'=>(aX aQ (pv 0) (pv 1) (fun _ _=>rfl)))) aj))) (aq (aZ (i:=10) ND rfl (by walk_at "o") (aV gK (pv 6) (pv 4))) (aq (dC (bc jg (pv 5) (tR O.EACH) (bh _)) (aH (a_ (aV xm (aV dR (aV bD (pv 9) (pv 10)) ao) (pv 10)))) bR) (aq (dC (PW.pt (Hf (PW.pt (wX (bc jg (pv 5) (tR O.OVER) (bh _)) (rC (bc jZ (pv 9) (pv 10) (bh _))))) (wW (PW.pt (wX (bc jg (pv 5) (tR O.UNDER) (bh _)) (rC (bc uF (pv 9) (pv 10) (bh _)))))))) (aH (a_ (aV bD (pv 1) (pv 7)))) bR) (aH (a_ cW)))))))),?_⟩
 obtain⟨a,rfl,h1⟩:=row_shape a1
 obtain⟨b,xs,rfl,h2,h3⟩:=bx a2
 walk_at "rd"
 refine⟨a,_,rfl,cB.of h1,rfl,?_⟩
 walk_at "rd"
 intro aw ho hw
 refine⟨.inr (.inl ⟨rfl,ho⟩),aw,r.w,rfl,hw _,rfl,hR.w,?_⟩
 show ir _ _ _ _ _ _
 rw[Ac]
 walk_at "rd"
 refine⟨b,xs,rfl,h2,fun p H1 s1 e1=>?_⟩
 rw[kY (by omega),tQ] at e1
 have h3':ak H1 ((cI.take r.s).map dw) (xs.take r.s):=by rw[Aw]; exact(h3.take r.s).mono s1
 have hs4:=hR.s
 have htl:(cI.take r.s).length<=4:=by rw[jG]; omega
 refine Od (a:=p) (f:=fun i=>((cI.take r.s).getD i []).getD (dZ r.w) 0) (fun R hR=>hR) e1 h3' (jt (bu (by rw[bM]; omega))) (fun i x d H' s' ed hx R hR'=>?_) (fun acc H' s' hl=>?_)
 ·rw[fQ] at ed
  obtain⟨l,el,rfl⟩:=kJ.mp ed
  have l3:l.length=3:=hN.l l (Mu (je el))
  obtain⟨c,ys,rfl,g1,g2⟩:=bx hx
  cases cu g2
  show R1 _ _ _ [some _,some (.int (dZ r.w:Nat))] H' R
  walk_at "rd"
  have hw:=sH r.w
  refine Ix.tup g1 (v:=.int (l.getD (dZ r.w) 0)) (bz (by rw[fQ,fD (by omega),gC,fD (by omega)]; rfl)) ?_
  have:=hR' H' (aG.refl H')
  have eg:(cI.take r.s).getD i []=l:=by rw[gC,el]; rfl
  rw[eg] at this
  exact this
 ·have sm:=s1.trans s'
  rw[bM] at hl
  refine⟨acc,_,rfl,.inl hl,.inr (by have:=hR.s; omega),?_⟩
  rw[yU]
  have q1:=q H' sm
  unfold says at q1
  refine gP (fun c1=>?_) (fun c1=>?_)
  ·have c1':=yX c1
   rw[aP c1'] at q1
   have h1n:=hR.e c1'
   have hpos:0<r.n*(r.s:Int):=Int.mul_pos (by omega) (by omega)
   have hup:r.n*(r.s:Int)<=1000000000000000000000000000000*4:=Int.mul_le_mul hR.n.2 (by omega) (by omega) (by decide)
   exact⟨⟨hpos,Int.lt_of_le_of_lt hup (by decide)⟩,q1⟩
  ·have c1':=yZ c1
   rw[bB c1'] at q1
   generalize um r.w r.s cI=tot at q1 ⊢
   generalize r.n*(r.s:Int)=mark at q1 ⊢
   by_cases o1:r.g = "over"
   ·have u1:¬r.g = "under" := by rw[o1]; decide +kernel
    rw[h_ o1,aP rfl]
    by_cases o2:mark<tot
    ·rw[h_ o2,aP rfl]
     rw[aP (.inl ⟨o1,o2⟩)] at q1; exact q1
    ·rw[ju o2,bB (by decide),ju u1,bB (by decide)]
     rw[bB (fun z=>by rcases z with z | z; exact o2 z.2; exact u1 z.1)] at q1; exact q1
   ·rw[ju o1,bB (by decide)]
    by_cases u1:r.g = "under"
    ·rw[h_ u1,aP rfl]
     by_cases o2:tot<mark
     ·rw[h_ o2,aP rfl]
      rw[aP (.inr ⟨u1,o2⟩)] at q1; exact q1
     ·rw[ju o2,bB (by decide)]
      rw[bB (fun z=>by rcases z with z | z; exact o1 z.1; exact o2 z.2)] at q1; exact q1
    ·rw[ju u1,bB (by decide)]
     rw[bB (fun z=>by rcases z with z | z; exact o1 z.1; exact u1 z.1)] at q1; exact q1
noncomputable def ZS:Sp:=fun vs H Q _=>∃(v u:V) (h:Int) (rs:List fP) (cI:List (List Int)),vs=[v,.int h,u]/\At H (qY rs) v/\At H (Jd cI) u/\(∀r∈rs,oV r)/\lC cI/\∀H',aG H H'->Q (.int (fZ h cI rs)) H'
theorem Rw.of {v u:V} {h:Int} {rs:List fP} {cI:List (List Int)} {H:Hp} {Q:VK} {E:XK} (a1:At H (qY rs) v) (a2:At H (Jd cI) u) (h1:∀r∈rs,oV r) (h2:lC cI) (q:∀H',aG H H'->Q (.int (fZ h cI rs)) H'):ZS ([v,.int h,u]++[]) H Q E:=⟨v,u,h,rs,cI,rfl,a1,a2,h1,h2,q⟩
theorem qO:bf ["rule","hands","newest","row","said"] ["rule","hands","newest"] (aK nR):=(by walk_at "c")
theorem Dr (F:jr K "rule_wish" "rule_wish" nR f fd) (qy:Ct P w K mg base k "row_says" ["row","hands","newest"] Jk):bZ P w K mg base jj (k+1) f fd ["rule","hands","newest"] ZS:=by
 refine F.ok qO (by rintro vs H Q E ⟨v,u,h,r,cI,rfl,_⟩; rfl) (fun cdv A outer s H vs Q E hr h=>?_)
 obtain⟨v,u,h,rs,cI,rfl,a1,a2,hR,hN,q⟩:=h
 have ND:=qO.nd
 refine⟨_,(aq (gb PassesOwn.never rfl (fU (K:=K) rfl (pv 0)) (aF (i:=3) ND rfl (by walk_at "o")) (aq (aZ (i:=4) ND rfl (by walk_at "o") (pf qy hr (aa (pv 3) (aa (pv 1) (aa (pv 2) aj))))) (aH (dC (bc o_ (pv 4) cW (bh _)) (aH (a_ (pv 4))) bR)))) (aH (a_ (pv 1)))),?_⟩
 obtain⟨a,xs,rfl,h1,h2⟩:=bx a1
 have hlen:=h2.length
 rw[bM] at hlen
 walk_at "rd"
 rw[nF]
 walk_at "rd"
 refine TK.of h1 (fun n σ H'=>∃o1 o2,σ=[some (.ref a),some (.int h),some u,o1,o2]/\aG H H'/\fZ h cI (rs.drop n)=fZ h cI rs) ⟨_,_,rfl,aG.refl H,rfl⟩ (fun n σ H' _ ⟨o1,o2,_,sm,_⟩=>sm _ _ h1) ?_ ?_
 ·rintro n x σ H1 hx ⟨o1,o2,rfl,sm,e⟩
  obtain⟨d,e1,e2⟩:=h2.get hx
  rw[fQ] at e1
  obtain⟨r,er,rfl⟩:=kJ.mp e1
  have hn:n<rs.length:=by
   obtain⟨z,_⟩:=fj.mp er; exact z
  have ed:rs.drop n=r::rs.drop (n+1):=by
   rw[Tj hn]
   obtain⟨z,ez⟩:=fj.mp er
   rw[ez]
  rw[ed,fZ] at e
  walk_at "rd"
  refine agf.of (e2.mono sm) (a2.mono sm) (hR r (je er)) hN fun H2 s2=>?_
  have s2:=sm.trans s2
  cases es:says r h cI with
  | none=>
   rw[es] at e
   refine⟨trivial,?_⟩
   exact⟨_,_,rfl,s2,e⟩
  | some i=>
   rw[es] at e
   refine⟨trivial,?_⟩
   have e:i=fZ h cI rs:=e
   show Q (.int i) H2
   rw[e]; exact q H2 s2
 ·rintro σ H1 ⟨o1,o2,rfl,sm,e⟩
  walk_at "rd"
  rw[hlen,Bc] at e
  have e:h=fZ h cI rs:=e
  rw[e]
  have:=q H1 sm
  rw[<- e] at this ⊢
  exact this
noncomputable def YL (d0 d1 d3 d4 d5:PyData) (l m:Int) (eN:List (List fP)):PyData:=.tuple [d0,d1,.tuple [.int l,.int m],d3,d4,d5,Js eN]
noncomputable def R7:Sp:=fun vs H Q _=>∃(v u:V) (h l m:Int) (d0 d1 d3 d4 d5:PyData) (eN:List (List fP)) (cI:List (List Int)),vs=[v,.int h,u]/\At H (YL d0 d1 d3 d4 d5 l m eN) v/\At H (Jd cI) u/\(∀rs∈eN,∀r∈rs,oV r)/\eN.length<=100/\lC cI /\
 ∀H',aG H H'->Q (.int (jW eN l m h cI)) H'
theorem LQ:bf ["post","hands","newest","least","most","wishes","wished"] ["post","hands","newest"] (aK Jo):=(by walk_at "c")
theorem W6 (F:jr K "wish" "wish" Jo f fd) (B:Bi mg) (oO:Ct P w K mg base k "rule_wish" ["rule","hands","newest"] ZS):bZ P w K mg base jj (k+1) f fd ["post","hands","newest"] R7:=by
 refine F.ok LQ (by rintro vs H Q E ⟨v,u,h,l,m,d0,d1,d3,d4,d5,eN,cI,rfl,_⟩; rfl) (fun cdv A outer s H vs Q E hr h=>?_)
 obtain⟨v,u,h,l,m,d0,d1,d3,d4,d5,eN,cI,rfl,a1,a2,hR,hn,hN,q⟩:=h
 have ND:=LQ.nd
 refine⟨_,(aq (cL (aX aQ (pv 0) ao (fun _ _=>rfl)) (bH (K:=K) (n:=2) rfl rfl (aD (aF (i:=3) ND rfl (by walk_at "o")) (aD (aF (i:=4) ND rfl (by walk_at "o")) bG)))) (aq (vg (i:=5) ND rfl (by walk_at "o") (N':=["rule","hands","newest"]) (js:=[1,2]) rfl (fU (K:=K) rfl (aX aQ (pv 0) ao (fun _ _=>rfl))) yP.mk2 rfl (by decide) rfl (fun fp s' H'=>(pf oO hr (aa (pv 0) (aa (pv 1) (aa (pv 2) aj)))))) (aq (aZ (i:=6) ND rfl (by walk_at "o") (MN rfl B.max (aa (pv 5) aj) (pv 1))) (aH (a_ (pb (dz rfl) B.min gk (aa (pb (fX rfl) B.max iH (aa (pv 6) (aa (pv 3) aj))) (aa (pv 4) aj)))))))),?_⟩
 obtain⟨a,xs,rfl,h1,h2⟩:=bx a1
 obtain⟨x0,_,rfl,b0,h2⟩:=ak.bA h2
 obtain⟨x1,_,rfl,b1,h2⟩:=ak.bA h2
 obtain⟨x2,_,rfl,b2,h2⟩:=ak.bA h2
 obtain⟨x3,_,rfl,b3,h2⟩:=ak.bA h2
 obtain⟨x4,_,rfl,b4,h2⟩:=ak.bA h2
 obtain⟨x5,_,rfl,b5,h2⟩:=ak.bA h2
 obtain⟨x6,_,rfl,b6,h2⟩:=ak.bA h2
 cases ak.nD h2
 obtain⟨c,ys,rfl,g1,g2⟩:=bx b2
 obtain⟨y0,_,rfl,k0,g2⟩:=ak.bA g2
 obtain⟨y1,_,rfl,k1,g2⟩:=ak.bA g2
 cases ak.nD g2
 unfold At at k0 k1
 subst k0 k1
 obtain⟨e,zs,rfl,m1,m2⟩:=bx b6
 walk_at "rd"
 refine Ix.tup h1 (bz (j:=2) rfl) ⟨c,_,rfl,cB.of g1,rfl,?_⟩
 walk_at "rd"
 rw[Ac]
 walk_at "rd"
 refine Ix.tup h1 (bz (j:=6) rfl) ?_
 refine Od (a:=e) (f:=fun i=>fZ h cI (eN.getD i [])) (fun R hR=>hR) m1 m2 (jt (bu (by rw[bM]; omega))) (fun i x d H' s' ed hx R hR'=>?_) (fun acc H' s' hl=>?_)
 ·rw[fQ] at ed
  obtain⟨rs,el,rfl⟩:=kJ.mp ed
  show qL _ _ _ _ [some x,some (.int h),some u] H' R
  walk_at "rd"
  refine Rw.of hx (a2.mono s') (hR rs (je el)) hN fun H2 s2=>?_
  have:=hR' H2 s2
  have eg:eN.getD i []=rs:=by rw[gC,el]; rfl
  rw[eg] at this
  exact this
 ·rw[bM] at hl
  have el:(List.range eN.length).map (fun i=>fZ h cI (eN.getD i []))=eN.map (fZ h cI):=by
   apply G7
   ·simp
   ·intro i h1 h2
    simp at h1 h2
    simp[gC,h2]
  rw[el] at hl
  have q1:=q H' s'
  unfold jW topOf at q1
  refine⟨acc,_,rfl,hl,fun en=>?_,fun b r er=>?_⟩
  ·rw[en] at q1
   exact q1
  ·rw[er] at q1
   exact q1
noncomputable def Lx:Sp:=fun vs H Q _=>∃(v x:V) (a:Addr) (r:Int) (b:Addr) (ns:List Int) (u:List V),v=.ref a/\vs=[v]/\H a=some (.tup (x::.int r::.ref b::u))/\H b=some (.tup (ns.map V.int))/\Q (.int (r+ns.sum)) H
theorem ux:bf ["stand"] ["stand"] (aK qg):=(by walk_at "c")
theorem Hq (F:jr K "hands_of" "hands_of" qg f fd) (B:Bi mg):bZ P w K mg base jj (k+1) f fd ["stand"] Lx:=by
 refine F.ok ux (by rintro vs H Q E ⟨v,x,a,r,b,ns,u,_,rfl,_⟩; rfl) (fun cdv A outer s H vs Q E hr h=>?_)
 obtain⟨v,x,a,r,b,ns,u,rfl,rfl,h1,h2,q⟩:=h
 have ND:=ux.nd
 refine⟨_,(aH (a_ (aV bD (aX aQ (pv 0) ao (fun _ _=>rfl)) (pb (pH rfl) B.sum Es (aa (aX aQ (pv 0) ao (fun _ _=>rfl)) aj))))),?_⟩
 walk_at "rd"
 refine⟨a,_,1,_,rfl,rfl,.inr h1,bz (j:=1) rfl,?_⟩
 refine⟨a,_,2,_,rfl,rfl,.inr h1,bz (j:=2) rfl,?_⟩
 refine⟨b,ns,rfl,.inr h2,?_⟩
 exact⟨_,_,rfl,rfl,q⟩
theorem UW {X:Cx}:adL X (fun o i H Q=>∃(p:Addr) (xs:List V) (j:Nat) (v:V),o=.ref p/\i=.int j/\H p=some (.lst xs)/\xs[j]?=some v/\Q v H):=by
 intro pins s σ H o i ov iv Q I ro ri h
 obtain⟨p,xs,j,v,rfl,rfl,hp,hv,q⟩:=h
 cases ro
 obtain⟨t,rfl⟩:=ri
 obtain⟨its,r,pl,hz⟩:=I.list (dh.of (K:=X.K) hp)
 obtain⟨w,ew,Z5⟩:=r.get hv
 have hl:=r.length
 have hn:=xQ
 have hj:j<xs.length:=by obtain⟨z,_⟩:=fj.mp hv; exact z
 exact wpAny_getItem_list pl.isList (by omega) (by omega) (by simpa using ew) ⟨v,H,I,Z5,q⟩
theorem rN {n j:Nat} (h:j<n):Uu n (j:Int)=some j:=by
 unfold Uu
 rw[aP (by omega),aP (by omega),tQ]
structure dX where
 w:Int
 r:Int
 cs:List Int
 s:Int
 t:Int
 us:List (List Int)
noncomputable def jk (x:dX):PyData:=.tuple [.int x.w,.int x.r,.tuple (x.cs.map .int),.int x.s,.int x.t,.tuple (x.us.map dw)]
structure jo (x:dX):Prop where
 c:x.cs.length=5
 u:x.us.length=3
 l:∀y∈x.us,y.length=3
structure dB where
 p:Int
 m:Int
 lo:Int
 hi:Int
 a:Nat
 e:Int
 u:Int
 d:Int
 eN:List (List fP)
noncomputable def jn (x:dB):PyData:=YL (.int x.p) (.int x.m) (.int x.a) (.int x.e) (.tuple [.int x.u,.int x.d]) x.lo x.hi x.eN
structure oW (x:dB):Prop where
 a:x.a<=4
 p:0<=x.p/\x.p<=1000000000000000000
 n:x.eN.length<=100
 g:∀rs∈x.eN,∀r∈rs,oV r
theorem lN {H:Hp} {x:dB} {v:V} (h:At H (jn x) v):∃a b c d,v=.ref a/\H a=some (.tup [.int x.p,.int x.m,.ref b,.int x.a,.int x.e,.ref c,.ref d])/\H c=some (.tup [.int x.u,.int x.d]):=by
 obtain⟨a,xs,rfl,h1,h2⟩:=bx h
 obtain⟨x0,_,rfl,b0,h2⟩:=ak.bA h2
 obtain⟨x1,_,rfl,b1,h2⟩:=ak.bA h2
 obtain⟨x2,_,rfl,b2,h2⟩:=ak.bA h2
 obtain⟨x3,_,rfl,b3,h2⟩:=ak.bA h2
 obtain⟨x4,_,rfl,b4,h2⟩:=ak.bA h2
 obtain⟨x5,_,rfl,b5,h2⟩:=ak.bA h2
 obtain⟨x6,_,rfl,b6,h2⟩:=ak.bA h2
 cases ak.nD h2
 unfold At at b0 b1 b3 b4
 subst b0 b1 b3 b4
 obtain⟨b,ys,rfl,_,_⟩:=bx b2
 obtain⟨c,zs,rfl,g1,g2⟩:=bx b5
 obtain⟨d,ws,rfl,_,_⟩:=bx b6
 obtain⟨y0,_,rfl,k0,g2⟩:=ak.bA g2
 obtain⟨y1,_,rfl,k1,g2⟩:=ak.bA g2
 cases ak.nD g2
 unfold At at k0 k1
 subst k0 k1
 exact⟨a,b,c,d,rfl,h1,g1⟩
theorem fC {H:Hp} {x:dX} {v:V} (h:At H (jk x) v):∃a b c,v=.ref a/\H a=some (.tup [.int x.w,.int x.r,.ref b,.int x.s,.int x.t,.ref c])/\H b=some (.tup (x.cs.map V.int))/\At H (.tuple (x.us.map dw)) (.ref c):=by
 obtain⟨a,xs,rfl,h1,h2⟩:=bx h
 obtain⟨x0,_,rfl,b0,h2⟩:=ak.bA h2
 obtain⟨x1,_,rfl,b1,h2⟩:=ak.bA h2
 obtain⟨x2,_,rfl,b2,h2⟩:=ak.bA h2
 obtain⟨x3,_,rfl,b3,h2⟩:=ak.bA h2
 obtain⟨x4,_,rfl,b4,h2⟩:=ak.bA h2
 obtain⟨x5,_,rfl,b5,h2⟩:=ak.bA h2
 cases ak.nD h2
 unfold At at b0 b1 b3 b4
 subst b0 b1 b3 b4
 obtain⟨b,ys,rfl,g1,g2⟩:=bx b2
 cases cu g2
 obtain⟨c,zs,rfl,_,_⟩:=bx b5
 exact⟨a,b,c,rfl,h1,g1,b5⟩
noncomputable def sW (e s:Int):Int:=if s+1<e then s+1 else 0
noncomputable def kO (e s t:Int):Bool:=if s+1<e then false else decide (t=0)
noncomputable def Lj:Sp:=fun vs H Q _=>∃(v:V) (x:dB) (s t:Int),vs=[v,.int s,.int t]/\At H (jn x) v/\∀p H',aG H H'->H' p=some (.tup [.int (sW x.e s),.bl (kO x.e s t)])->Q (.ref p) H'
theorem jX:bf ["post","since","rest","every"] ["post","since","rest"] (aK iQ):=(by walk_at "c")
theorem rF (F:jr K "since_and_look" "since_and_look" iQ f fd):bZ P w K mg base jj (k+1) f fd ["post","since","rest"] Lj:=by
 refine F.ok jX (by rintro vs H Q E ⟨v,x,s,t,rfl,_⟩; rfl) (fun cdv A outer s H vs Q E hr h=>?_)
 obtain⟨v,x,sn,t,rfl,a1,q⟩:=h
 have ND:=jX.nd
 refine⟨_,(aq (aZ (i:=3) ND rfl (by walk_at "o") (aX aQ (pv 0) ao (fun _ _=>rfl))) (aq (dC (bc uF (aV bD (pv 1) ao) (pv 3) (bh _)) (aH (a_ (aY (aa (aV bD (pv 1) ao) (aa rD aj))))) bR) (aH (a_ (aY (aa ao (aa (fK jg (pv 2) ao (bh _)) aj))))))),?_⟩
 obtain⟨a,b,c,d,rfl,h1,h2⟩:=lN a1
 walk_at "rd"
 refine Ix.tup h1 (bz (j:=4) rfl) ?_
 walk_at "rd"
 refine gP (fun c1=>?_) (fun c1=>?_)
 ·have c1':=yX c1
  refine⟨(by decide),fun p H1 f1 s1 e1=>q p H1 s1 ?_⟩
  unfold sW kO
  rw[aP c1',aP c1']; exact e1
 ·have c1':=yZ c1
  refine⟨(by decide),fun p H1 f1 s1 e1=>q p H1 s1 ?_⟩
  unfold sW kO
  rw[bB c1',bB c1']; exact e1
noncomputable def vB (x:dB) (h fr:Int) (cI:List (List Int)):Int:=if fr<jW x.eN x.lo x.hi h cI-h then fr else jW x.eN x.lo x.hi h cI-h
noncomputable def Ge:Sp:=fun vs H Q _=>∃(v u:V) (x:dB) (h fr:Int) (cI:List (List Int)),vs=[v,.int h,u,.int fr]/\At H (jn x) v/\At H (Jd cI) u/\oW x/\lC cI/\∀H',aG H H'->Q (.int (vB x h fr cI)) H'
theorem qQ:bf ["post","hands","newest","free"] ["post","hands","newest","free"] (aK nW):=(by walk_at "c")
theorem Dt (F:jr K "change_of" "change_of" nW f fd) (B:Bi mg) (KR:Ct P w K mg base k "wish" ["post","hands","newest"] R7):bZ P w K mg base jj (k+1) f fd ["post","hands","newest","free"] Ge:=by
 refine F.ok qQ (by rintro vs H Q E ⟨v,u,x,h,fr,cI,rfl,_⟩; rfl) (fun cdv A outer s H vs Q E hr h=>?_)
 obtain⟨v,u,x,h,fr,cI,rfl,a1,a2,hP,hN,q⟩:=h
 have ND:=qQ.nd
 refine⟨_,(aH (a_ (pb (dz rfl) B.min gk (aa (aV dR (pf KR hr (aa (pv 0) (aa (pv 1) (aa (pv 2) aj)))) (pv 1)) (aa (pv 3) aj))))),?_⟩
 walk_at "rd"
 refine⟨v,u,h,x.lo,x.hi,_,_,_,_,_,x.eN,cI,rfl,a1,a2,hP.g,hP.n,hN,fun H1 s1=>?_⟩
 walk_at "rd"
 exact q H1 s1
noncomputable def bj:List Int->Int->List Int×Int
 | [],n=>([],n)
 | c::cs,n=>((c-(if(bj cs n).2<c then(bj cs n).2 else c))::(bj cs n).1,(bj cs n).2-(if(bj cs n).2<c then(bj cs n).2 else c))
theorem mL:∀(cs:List Int) (n:Int),(bj cs n).1.length=cs.length
 | [],_=>rfl
 | c::cs,n=>by rw[bj,jF,jF,mL cs n]
noncomputable def R_:Sp:=fun vs H Q _=>∃(r n:Int) (b:Addr) (cs:List Int),vs=[.int r,.ref b,.int n]/\H b=some (.tup (cs.map V.int))/\cs.length<=100/\∀p b' H',aG H H'->H' p=some (.tup [.int (r-(bj cs n).2),.ref b'])->H' b'=some (.tup ((bj cs n).1.map V.int))->Q (.ref p) H'
theorem qN:bf ["ready","called","many","left","place","gone"] ["ready","called","many"] (aK nQ):=(by walk_at "c")
theorem Dq (F:jr K "sent_home" "sent_home" nQ f fd) (B:Bi mg):bZ P w K mg base jj (k+1) f fd ["ready","called","many"] R_:=by
 refine F.ok qN (by rintro vs H Q E ⟨r,n,b,cs,rfl,_⟩; rfl) (fun cdv A outer s H vs Q E hr h=>?_)
 obtain⟨r,n,b,cs,rfl,h1,hlen,q⟩:=h
 have ND:=qN.nd
 refine⟨_,(aq (aZ (i:=3) ND rfl (by walk_at "o") (pt (uf) B.list j7 (aa (pv 1) aj))) (aq (gb PassesOwn.never rfl (aai B.reversed B.range (aa (pb (fY (K:=K) rfl) B.len mY (aa (pv 3) aj)) aj)) (aF (i:=4) ND rfl (by walk_at "o")) (aq (aZ (i:=5) ND rfl (by walk_at "o") (pb (dz rfl) B.min gk (aa (aX aQ (pv 3) (pv 4) (fun _ _=>rfl)) (aa (pv 2) aj)))) (aq (WQ (pv 3) (pv 4) UW (pv 5) J4 set_list) (aH (xf (i:=2) ND rfl (by walk_at "o") (pv 5) J4))))) (aH (a_ (aY (aa (aV dR (pv 0) (pv 2)) (aa (pt (b8) B.tuple cg (aa (pv 3) aj)) aj))))))),?_⟩
 walk_at "rd"
 refine⟨b,_,rfl,h1,fun p1 f1=>?_⟩
 have s1:=aM f1 (HO.lst (cs.map V.int))
 have e1:upd H p1 (HO.lst (cs.map V.int)) p1=some (.lst (cs.map V.int)):=aC
 generalize upd H p1 (HO.lst (cs.map V.int))=H1 at s1 e1 ⊢
 rw[R3]
 walk_at "rd"
 refine⟨p1,_,rfl,.inl (dh.of e1),?_⟩
 rw[bM]
 refine VK'.of (n:=cs.length) rfl (by omega) (fun i σ H'=>∃o4 o5:Option V,σ=[some (.int r),some (.ref b),some (.int (bj (cs.drop (cs.length-i)) n).2),some (.ref p1),o4,o5]/\H' p1=some (.lst ((cs.take (cs.length-i)++(bj (cs.drop (cs.length-i)) n).1).map V.int))/\aG H H')
  ⟨_,_,by rw[Nat.sub_zero,Bc]; rfl,by rw[Nat.sub_zero,Bc,pL]; simpa[bj] using e1,s1⟩ ?_ ?_
 ·rintro i σ H2 hi ⟨o4,o5,rfl,h2,s2⟩
  obtain⟨j,ej⟩:∃j:Nat,cs.length-i=j+1:=⟨cs.length-i-1,by omega⟩
  have ej2:cs.length-(i+1)=j:=by omega
  have ei:(cs.length:Int)-1-(i:Nat)=(j:Nat):=by omega
  rw[ej] at h2
  rw[ei,ej,ej2]
  have hj:j<cs.length:=by omega
  have dj:cs.drop j=cs[j]::cs.drop (j+1):=Tj hj
  have tj:cs.take (j+1)=cs.take j++[cs[j]]:=by rw[Dj,fD hj]; rfl
  rw[dj,bj]
  generalize bj (cs.drop (j+1)) n=gh at h2 ⊢
  rw[tj] at h2
  generalize cs[j]=cj at h2 ⊢
  have lt:(cs.take j).length=j:=by rw[jG]; omega
  have gj:((cs.take j++[cj]++gh.1).map V.int)[j]?=some (.int cj):=by
   rw[fQ,wR,zj (by omega),lt,yW]; rfl
  walk_at "rd"
  refine Ix.lst h2 (bz gj) ?_
  walk_at "rd"
  refine⟨p1,_,j,_,rfl,rfl,h2,gj,?_⟩
  walk_at "rd"
  refine⟨p1,_,_,j,rfl,rfl,h2,rN (by rw[bM,gH,gH,lt]; show j<j+1+_; omega),?_⟩
  refine⟨_,rfl,_,_,rfl,rfl,_,_,rfl,?_,fun z o w=>?_⟩
  ·rw[aC]
   congr 2
   have e:cs.take j++[cj]++gh.1=cs.take j++(cj::gh.1):=by simp
   rw[e,iu,iu,List.set_append_right _ _ (by rw[bM]; omega),bM,lt,yW]
   rfl
  ·rw[aR (bQ w f1)]
   exact s2 _ _ w
 ·rintro σ H2 ⟨o4,o5,rfl,h2,s2⟩
  rw[yW,List.drop_zero,List.take_zero,Az] at h2
  rw[yW,List.drop_zero]
  walk_at "rd"
  refine⟨p1,_,rfl,h2,fun p3 f3=>?_⟩
  have s3:=aM f3 (HO.tup ((bj cs n).1.map V.int))
  have e3:upd H2 p3 (HO.tup ((bj cs n).1.map V.int)) p3=some (.tup ((bj cs n).1.map V.int)):=aC
  generalize upd H2 p3 (HO.tup ((bj cs n).1.map V.int))=H3 at s3 e3 ⊢
  refine⟨(by decide),fun p4 H4 f4 s4 e4=>?_⟩
  exact q p4 p3 H4 (s2.trans (s3.trans s4)) e4 (s4 _ _ e3)
noncomputable def dM (x:dB) (st:dX) (ch:Int):dX:=
 if ch=0 then st else if 0<ch then { st with cs:=st.cs.take x.a++[st.cs.getD x.a 0+ch]++st.cs.drop (x.a+1),t:=x.u }
 else { st with r:=st.r-(bj st.cs (-ch)).2,cs:=(bj st.cs (-ch)).1,t:=x.d }
noncomputable def Jj:Sp:=fun vs H Q _=>∃(v u:V) (x:dB) (st:dX) (ch:Int),vs=[v,u,.int ch]/\At H (jn x) v/\At H (jk st) u/\oW x/\jo st/\∀u' H',aG H H'->At H' (jk (dM x st ch)) u'->Q u' H'
theorem nG:bf ["post","stand","change","late","rests","wait","ready","called","since","rest","seen"] ["post","stand","change"] (aK j_):=(by walk_at "c")
theorem xn (F:jr K "with_change" "with_change" j_ f fd) (B:Bi mg) (oN:Ct P w K mg base k "sent_home" ["ready","called","many"] R_):bZ P w K mg base jj (k+1) f fd ["post","stand","change"] Jj:=by
 refine F.ok nG (by rintro vs H Q E ⟨v,u,x,st,ch,rfl,_⟩; rfl) (fun cdv A outer s H vs Q E hr h=>?_)
 obtain⟨v,u,x,st,ch,rfl,a1,a2,hP,hS,q⟩:=h
 have ND:=nG.nd
 refine⟨_,(aq (dC (bc jg (pv 2) ao (bh _)) (aH (a_ (pv 1))) bR) (aq (mD (i:=3) (j:=4) rfl ND rfl rfl (by decide) rfl rfl (aa (aX aQ (pv 0) ao (fun _ _=>rfl)) (aa (aX aQ (pv 0) ao (fun _ _=>rfl)) aj)) (by rfl)) (aq (cL (pv 1) (bH (K:=K) (n:=6) rfl rfl (aD (aF (i:=5) ND rfl (by walk_at "o")) (aD (aF (i:=6) ND rfl (by walk_at "o")) (aD (aF (i:=7) ND rfl (by walk_at "o")) (aD (aF (i:=8) ND rfl (by walk_at "o")) (aD (aF (i:=9) ND rfl (by walk_at "o")) (aD (aF (i:=10) ND rfl (by walk_at "o")) bG)))))))) (aq (dC (bc jZ (pv 2) ao (bh _)) (aq (aZ (i:=7) ND rfl (by walk_at "o") (aV ph (aV ph (cZ gB (pv 7) eX (du (pv 3))) (aY (aa (aV bD (aX aQ (pv 7) (pv 3) (fun _ _=>rfl)) (pv 2)) aj))) (cZ gB (pv 7) (du (aV bD (pv 3) ao)) eX))) (aH (aZ (i:=9) ND rfl (by walk_at "o") (aX aQ (pv 4) ao (fun _ _=>rfl))))) (aq (cL (pf oN hr (aa (pv 6) (aa (pv 7) (aa (Hk vK (pv 2)) aj)))) (bH (K:=K) (n:=2) rfl rfl (aD (aF (i:=6) ND rfl (by walk_at "o")) (aD (aF (i:=7) ND rfl (by walk_at "o")) bG)))) (aH (aZ (i:=9) ND rfl (by walk_at "o") (aX aQ (pv 4) ao (fun _ _=>rfl)))))) (aH (a_ (aY (aa (pv 5) (aa (pv 6) (aa (pv 7) (aa (pv 8) (aa (pv 9) (aa (pv 10) aj))))))))))))),?_⟩
 walk_at "rd"
 refine gP (fun c1=>?_) (fun c1=>?_)
 ·have:=q u H (aG.refl H)
  unfold dM at this
  rw[aP (yX c1)] at this
  exact this a2
 have c1':=yZ c1
 obtain⟨pa,pb,pc,pd,rfl,p1,p2⟩:=lN a1
 obtain⟨sa,sb,sc,rfl,g1,g2,g3⟩:=fC a2
 have ha4:=hP.a
 have hc5:=hS.c
 refine Ix.tup p1 (bz (j:=3) rfl) (Ix.tup p1 (bz (j:=5) rfl) ⟨_,_,rfl,?_⟩)
 refine⟨sa,_,rfl,cB.of g1,rfl,?_⟩
 walk_at "rd"
 refine gP (fun c2=>?_) (fun c2=>?_)
 ·have c2':=yX c2
  have ga:(st.cs.map V.int)[x.a]?=some (.int (st.cs.getD x.a 0)):=by
   rw[fQ,fD (by omega),gC,fD (by omega)]; rfl
  refine⟨sb,_,rfl,g2,fun p3 H3 s3 e3=>?_⟩
  rw[kY (by omega),tQ] at e3
  refine Ix.tup (s3 _ _ g2) (bz ga) ?_
  walk_at "rd"
  refine⟨(by decide),fun p4 H4 f4 s4 e4=>?_⟩
  refine⟨p3,p4,_,_,rfl,rfl,s4 _ _ e3,e4,jt (bu (by simp; omega)),fun p5 H5 s5 e5=>?_⟩
  walk_at "rd"
  have s35:=s3.trans (s4.trans s5)
  refine⟨sb,_,rfl,s35 _ _ g2,fun p6 H6 s6 e6=>?_⟩
  rw[oM (by omega)] at e6
  refine⟨p5,p6,_,_,rfl,rfl,s6 _ _ e5,e6,jt (bu (by simp; omega)),fun p7 H7 s7 e7=>?_⟩
  have Z2:=s35.trans (s6.trans s7)
  walk_at "rd"
  refine Ix.tup (Z2 _ _ p2) (bz (j:=0) rfl) ⟨(by decide),fun p8 H8 f8 s8 e8=>?_⟩
  have s38:=Z2.trans s8
  refine q (.ref p8) H8 s38 ?_
  unfold dM
  rw[bB c1',aP c2']
  refine At.tup e8 (ak.cons (At.int _) (ak.cons (At.int _) (ak.cons (At.tup (s8 _ _ e7) ?_) (ak.cons (At.int _) (ak.cons (At.int _) (ak.cons (g3.mono s38) ak.nil))))))
  have e:(((x.a:Int)+1).toNat)=x.a+1:=by omega
  rw[e]
  have:=bw (H:=H8) (st.cs.take x.a++[st.cs.getD x.a 0+ch]++st.cs.drop (x.a+1))
  simpa using this
 ·have c2':=yZ c2
  refine⟨st.r,-ch,sb,st.cs,rfl,g2,by omega,fun p3 b3 H3 s3 e3 e4=>?_⟩
  refine⟨p3,_,rfl,cB.of e3,rfl,?_⟩
  walk_at "rd"
  refine Ix.tup (s3 _ _ p2) (bz (j:=1) rfl) ⟨(by decide),fun p8 H8 f8 s8 e8=>?_⟩
  have s38:=s3.trans s8
  refine q (.ref p8) H8 s38 ?_
  unfold dM
  rw[bB c1',bB (by omega)]
  exact At.tup e8 (ak.cons (At.int _) (ak.cons (At.int _) (ak.cons (At.tup (s8 _ _ e4) (bw _)) (ak.cons (At.int _) (ak.cons (At.int _) (ak.cons (g3.mono s38) ak.nil))))))
noncomputable def b_ (x:dB) (st:dX) (come:Int):Int:=if(if 0>x.m-st.w then 0 else x.m-st.w)<come then(if 0>x.m-st.w then 0 else x.m-st.w) else come
noncomputable def cR (st:dX):Int:=st.r+st.cs.getD 0 0
noncomputable def gW (x:dB) (st:dX) (come:Int):Int:=if cR st*x.p<st.w+b_ x st come then cR st*x.p else st.w+b_ x st come
noncomputable def cU (x:dB) (st:dX) (come:Int):List (List Int):=[come,gW x st come,st.w+b_ x st come-gW x st come]::st.us
noncomputable def dU (x:dB) (st:dX) (come:Int):dX:=⟨st.w+b_ x st come-gW x st come,cR st,st.cs.drop 1++[0],sW x.e st.s,if 0>st.t-1 then 0 else st.t-1,(cU x st come).take 3⟩
noncomputable def rT (x:dB) (st:dX) (come fr:Int):Int:=if kO x.e st.s st.t=true then vB x (cR st+(st.cs.drop 1++[0]).sum) fr (cU x st come) else 0
noncomputable def Su:Sp:=fun vs H Q _=>∃(v u:V) (x:dB) (st:dX) (come fr:Int),vs=[v,u,.int come,.int fr]/\At H (jn x) v/\At H (jk st) u/\oW x/\jo st /\
 ∀p u' H',aG H H'->At H' (jk (dM x (dU x st come) (rT x st come fr))) u'->H' p=some (.tup [u',.int (gW x st come),.int (come-b_ x st come),.int (rT x st come fr)])->Q (.ref p) H'
theorem L_:bf ["post","stand","come","free","pace","room","wait","ready","called","since","rest","seen","taken","done","newest","looks","moved","change"] ["post","stand","come","free"] (aK Jq):=(by walk_at "c")
theorem Hw {x:dB} {st:dX} {come:Int} (h:jo st):jo (dU x st come):=by
 refine⟨?_,?_,fun y hy=>?_⟩
 ·show(st.cs.drop 1++[0]).length=5
  have:=h.c
  simp; omega
 ·show((cU x st come).take 3).length=3
  have:=h.u
  unfold cU
  simp; omega
 ·have hy:=Mu hy
  unfold cU at hy
  rcases bU.mp hy with z | z
  ·rw[z]; rfl
  ·exact h.l y z
theorem W8 {T:Addr} {tk:Tok} (F:uX K "beat" "beat" Jq f fd T 12 tk) (B:Bi mg) (O:Co K mg) (i_:Ct P w K mg base k "since_and_look" ["post","since","rest"] Lj) (oU:Ct P w K mg base k "change_of" ["post","hands","newest","free"] Ge) (qz:Ct P w K mg base k "hands_of" ["stand"] Lx)
  (kZ:Ct P w K mg base k "with_change" ["post","stand","change"] Jj):bZ P w K mg base jj (k+1) f fd ["post","stand","come","free"] Su:=by
 refine F.ok L_ (by rintro vs H Q E ⟨v,u,x,st,come,fr,rfl,_⟩; rfl) (fun cdv A outer s H vs Q E hr h=>?_)
 obtain⟨v,u,x,st,come,fr,rfl,a1,a2,hP,hS,q⟩:=h
 have ND:=L_.nd
 refine⟨_,(aq (cL (cZ gB (pv 0) eX (du ao)) (bH (K:=K) (n:=2) rfl rfl (aD (aF (i:=4) ND rfl (by walk_at "o")) (aD (aF (i:=5) ND rfl (by walk_at "o")) bG)))) (aq (cL (pv 1) (bH (K:=K) (n:=6) rfl rfl (aD (aF (i:=6) ND rfl (by walk_at "o")) (aD (aF (i:=7) ND rfl (by walk_at "o")) (aD (aF (i:=8) ND rfl (by walk_at "o")) (aD (aF (i:=9) ND rfl (by walk_at "o")) (aD (aF (i:=10) ND rfl (by walk_at "o")) (aD (aF (i:=11) ND rfl (by walk_at "o")) bG)))))))) (aq (xf (i:=7) ND rfl (by walk_at "o") (aX aQ (pv 8) ao (fun _ _=>rfl)) J5) (aq (aZ (i:=8) ND rfl (by walk_at "o") (aV ph (cZ gB (pv 8) (du ao) eX) (aY (aa ao aj)))) (aq (aZ (i:=12) ND rfl (by walk_at "o") (pb (dz rfl) B.min gk (aa (pv 2) (aa (pb (fX rfl) B.max iH (aa (aV dR (pv 5) (pv 6)) (aa ao aj))) aj)))) (aq (xf (i:=6) ND rfl (by walk_at "o") (pv 12) J5) (aq (aZ (i:=13) ND rfl (by walk_at "o") (pb (dz rfl) B.min gk (aa (pv 6) (aa (aV gK (pv 7) (pv 4)) aj)))) (aq (xf (i:=6) ND rfl (by walk_at "o") (pv 13) J4) (aq (aZ (i:=14) ND rfl (by walk_at "o") (aV ph (aY (aa (aY (aa (pv 2) (aa (pv 13) (aa (pv 6) aj)))) aj)) (pv 11))) (aq (cL (pf i_ hr (aa (pv 0) (aa (pv 9) (aa (pv 10) aj)))) (bH (K:=K) (n:=2) rfl rfl (aD (aF (i:=9) ND rfl (by walk_at "o")) (aD (aF (i:=15) ND rfl (by walk_at "o")) bG)))) (aq (aZ (i:=16) ND rfl (by walk_at "o") (aY (aa (pv 6) (aa (pv 7) (aa (pv 8) (aa (pv 9) (aa (pb (fX rfl) B.max iH (aa (aV dR (pv 10) ao) (aa ao aj))) (aa (cZ gB (pv 14) eX (du (JH O.E_))) aj)))))))) (aq (aZ (i:=17) ND rfl (by walk_at "o") (eE (mC (pv 15)) (pf oU hr (aa (pv 0) (aa (pf qz hr (aa (pv 16) aj)) (aa (pv 14) (aa (pv 3) aj))))) ao)) (aH (a_ (aY (aa (pf kZ hr (aa (pv 0) (aa (pv 16) (aa (pv 17) aj)))) (aa (pv 13) (aa (aV dR (pv 2) (pv 12)) (aa (pv 17) aj))))))))))))))))))),?_⟩
 obtain⟨pa,pb,pc,pd,rfl,p1,p2⟩:=lN a1
 obtain⟨sa,sb,sc,rfl,g1,g2,g3⟩:=fC a2
 have hc5:=hS.c
 have hpp:=hP.p
 have gc0:(st.cs.map V.int)[0]?=some (.int (st.cs.getD 0 0)):=by
  rw[fQ,fD (by omega),gC,fD (by omega)]; rfl
 walk_at "rd"
 refine⟨pa,_,rfl,p1,fun q1 H1 s1 e1=>?_⟩
 rw[kY (by decide)] at e1
 replace e1:H1 q1=some (.tup [.int x.p,.int x.m]):=e1
 refine⟨q1,_,rfl,cB.of e1,rfl,?_⟩
 walk_at "rd"
 refine⟨sa,_,rfl,cB.of (s1 _ _ g1),rfl,?_⟩
 walk_at "rd"
 refine⟨_,rfl,Ix.tup (s1 _ _ g2) (bz gc0) ⟨_,_,rfl,rfl,?_⟩⟩
 refine⟨sb,_,rfl,s1 _ _ g2,fun q2 H2 s2 e2=>?_⟩
 rw[oM (by decide)] at e2
 have s12:=s1.trans s2
 refine⟨(by decide),fun q3 H3 f3 s3 e3=>?_⟩
 refine⟨q2,q3,_,_,rfl,rfl,s3 _ _ e2,e3,jt (bu (by simp; omega)),fun q4 H4 s4 e4=>?_⟩
 have Dd:=s12.trans (s3.trans s4)
 walk_at "rd"
 refine⟨_,rfl,_,_,rfl,rfl,.inr (by omega),_,rfl,_,_,rfl,rfl,(by decide),fun q5 H5 f5 s5 e5=>⟨(by decide),fun q6 H6 f6 s6 e6=>?_⟩⟩
 replace e5:H5 q5=some (.tup [.int come,.int (gW x st come),.int (st.w+b_ x st come-gW x st come)]):=e5
 obtain⟨sc',us',ec,gu,au⟩:=bx g3
 cases ec
 have Dc:=Dd.trans (s5.trans s6)
 have lus:us'.length=3:=by have:=au.length; rw[bM,hS.u] at this; exact this
 refine⟨q6,sc,_,_,rfl,rfl,e6,Dc _ _ gu,jt (bu (by simp; omega)),fun q7 H7 s7 e7=>?_⟩
 have Z3:=Dc.trans s7
 have a7:At H7 (Jd (cU x st come)) (.ref q7):=At.tup e7 (ak.cons (At.tup ((s6.trans s7) _ _ e5) (bw [come,gW x st come,st.w+b_ x st come-gW x st come])) (au.mono Z3))
 have hN:lC (cU x st come):=⟨by show st.us.length+1=4; rw[hS.u],fun y hy=>by
  rcases bU.mp hy with z | z
  ·rw[z]; rfl
  ·exact hS.l y z⟩
 refine⟨.ref pa,x,st.s,st.t,rfl,a1.mono Z3,fun q8 H8 s8 e8=>?_⟩
 refine⟨q8,_,rfl,cB.of e8,rfl,?_⟩
 walk_at "rd"
 have Wr:=Z3.trans s8
 obtain⟨q7',nws,en,gn,an⟩:=bx (a7.mono s8)
 cases en
 refine⟨q7,_,rfl,gn,fun q9 H9 s9 e9=>?_⟩
 rw[kY (by decide)] at e9
 have s19:=Wr.trans s9
 refine⟨(by decide),fun q10 uL f10 nq e10=>?_⟩
 have acF:=s19.trans nq
 have e4':H4 q4=some (.tup ((st.cs.drop 1++[0]).map V.int)):=by rw[e4]; simp
 have acA:aG H4 uL:=s5.trans (s6.trans (s7.trans (s8.trans (s9.trans nq))))
 have am:At uL (jk (dU x st come)) (.ref q10):=by
  refine At.tup e10 (ak.cons (At.int _) (ak.cons (At.int _) (ak.cons (At.tup (acA _ _ e4') (bw _)) (ak.cons (At.int _) (ak.cons (At.int _) (ak.cons (At.tup (nq _ _ e9) ?_) ak.nil))))))
  show ak uL (((cU x st come).take 3).map dw) _
  rw[Aw]
  exact(an.take 3).mono (s9.trans nq)
 have fin:∀(c:Int) (sG:Hp),rT x st come fr=c->aG uL sG->Jj [.ref pa,.ref q10,.int c] sG (fun y H1=>4<=sizeLine/\∀p H',H1 p=none->aG H1 H'->H' p=some (.tup [y,.int (gW x st come),.int (come-b_ x st come),.int c])->Q (.ref p) H') E0:=fun c sG ec pR=>by
  subst ec
  have acE:=acF.trans pR
  exact⟨.ref pa,.ref q10,x,dU x st come,_,rfl,a1.mono acE,am.mono pR,hP,Hw hS,fun u' vG aeC a12=>⟨(by decide),fun q13 Iz Za jA N7=>q q13 u' Iz (acE.trans (aeC.trans jA)) (a12.mono jA) N7⟩⟩
 refine gP (fun c1=>?_) (fun c1=>?_)
 ·refine⟨.ref q10,_,q10,cR st,q4,st.cs.drop 1++[0],_,rfl,rfl,e10,acA _ _ e4',?_⟩
  refine⟨.ref pa,.ref q7,x,_,fr,cU x st come,rfl,a1.mono acF,a7.mono (s8.trans (s9.trans nq)),hP,hN,fun sG pR=>?_⟩
  exact fin _ sG (by unfold rT; rw[aP c1]) pR
 ·exact fin 0 uL (by unfold rT; rw[bB (by rw[c1]; decide)]) (aG.refl _)
local macro_rules | `(tactic| walk_at "cap")=>`(tactic| simp only[b7,q_,List.map_nil,List.getElem?_cons_zero,Tc,Option.join_some])
noncomputable def bO:List fP->Str->Int
 | [],_=>0
 | r::rs,w=>if r.w=w/\bO rs w<(r.s:Int)-1 then(r.s:Int)-1 else bO rs w
structure Cg (rs:List fP) (w:Str) (v:Int):Prop where
 z:0<=v
 le:∀r∈rs,r.w=w->(r.s:Int)-1<=v
 at':v=0\/∃r∈rs,r.w=w/\(r.s:Int)-1=v
theorem Cg.one {rs:List fP} {w:Str} {v u:Int} (h:Cg rs w v) (k:Cg rs w u):v=u:=by
 have h1:v<=u:=by
  rcases h.at' with z | ⟨r,hr,e,z⟩
  ·have:=k.z; omega
  ·have:=k.le r hr e; omega
 have h2:u<=v:=by
  rcases k.at' with z | ⟨r,hr,e,z⟩
  ·have:=h.z; omega
  ·have:=h.le r hr e; omega
 omega
theorem yN:∀(rs:List fP) (w:Str),Cg rs w (bO rs w)
 | [],w=>⟨pJ 0,by simp,.inl rfl⟩
 | r::rs,w=>by
  have ih:=yN rs w
  have e:bO (r::rs) w=if r.w=w/\bO rs w<(r.s:Int)-1 then(r.s:Int)-1 else bO rs w:=rfl
  rw[e]
  have z:=ih.z
  by_cases c:r.w=w/\bO rs w<(r.s:Int)-1
  ·rw[aP c]
   refine⟨by omega,fun x hx hw=>?_,.inr ⟨r,jT,c.1,rfl⟩⟩
   rcases bU.mp hx with y | y
   ·rw[y]; exact pJ _
   ·have:=ih.le x y hw; omega
  ·rw[bB c]
   refine⟨z,fun x hx hw=>?_,?_⟩
   ·rcases bU.mp hx with y | y
    ·subst y
     have:¬bO rs w<(x.s:Int)-1:=fun q=>c ⟨hw,q⟩
     omega
    ·exact ih.le x y hw
   ·rcases ih.at' with y | ⟨x,hx,e1,e2⟩
    ·exact .inl y
    ·exact .inr ⟨x,jx _ hx,e1,e2⟩
noncomputable def gU (x:dB):List Int:=[bO x.eN.flatten "come",bO x.eN.flatten "done",bO x.eN.flatten "wait"]
theorem vm:∀(r:List Int) (b:Int),(∀y∈b::r,y<=fO b r)/\fO b r∈b::r
 | [],b=>⟨fun y hy=>by rw[fH.mp hy]; exact pJ _,fH.mpr rfl⟩
 | c::r,b=>by
  have ih:=vm r (if c>b then c else b)
  have e:fO b (c::r)=fO (if c>b then c else b) r:=rfl
  rw[e]
  obtain⟨h1,h2⟩:=ih
  have hb:=h1 _ jT
  have hb2:b<=fO (if c>b then c else b) r/\c<=fO (if c>b then c else b) r:=by
   generalize fO (if c>b then c else b) r=M at hb
   by_cases z:c>b
   ·rw[aP z] at hb; omega
   ·rw[bB z] at hb; omega
  refine⟨fun y hy=>?_,?_⟩
  ·rcases bU.mp hy with z | z
   ·subst z; exact hb2.1
   ·rcases bU.mp z with z | z
    ·subst z; exact hb2.2
    ·exact h1 y (jx _ z)
  ·rcases bU.mp h2 with z | z
   ·rw[z]
    split
    ·exact jx _ jT
    ·exact jT
   ·exact jx _ (jx _ z)
noncomputable def CP:Sp:=fun vs H Q _=>∃(p:Addr) (t:Str) (rs:List fP) (xs:List V),vs=[.ref p,.str t]/\H p=some (.lst xs)/\ak H (rs.map qi) xs/\rs.length<=1000/\(∀r∈rs,oV r)/\∀H',aG H H'->Q (.int (bO rs t)) H'
theorem pN:bf ["rows","what"] ["rows","what"] (aK l_):=(by walk_at "c")
theorem zm (F:jr K "most_ahead" "most_ahead" l_ f fd) (B:Bi mg):bZ P w K mg base jj (k+1) f fd ["rows","what"] CP:=by
 refine F.ok pN (by rintro vs H Q E ⟨p,t,rs,xs,rfl,_⟩; rfl) (fun cdv A outer s H vs Q E hr h=>?_)
 obtain⟨p,t,rs,xs,rfl,hp,hA,hn,hR,q⟩:=h
 have ND:=pN.nd
 refine⟨_,(aH (a_ (MN rfl B.max (aa (fu (nt:=1) (N':=["row","what"]) (js:=[1]) rfl (jK (K:=K) rfl (pv 0)) jz.of (fun fp s' H'=>(aF (i:=0) (by show List.Nodup (["row","what"]:List Str); decide) rfl (.inl (iJ rfl)) (.inr (iJ rfl)))) (fun fp s' H'=>DY (bc jg (aX aQ (pv 0) ao (fun _ _=>rfl)) (pv 1) (bh _))) (fun fp s' H'=>(aV dR (aX aQ (pv 0) ao (fun _ _=>rfl)) ao))) aj) ao))),?_⟩
 walk_at "rd"
 have hlen:xs.length=rs.length:=by rw[hA.length,bM]
 have row:∀(i:Nat) x,xs[i]?=some x->∃r,rs[i]?=some r/\At H (qi r) x:=fun i x hx=>by
  obtain⟨d,hd,a⟩:=hA.get hx
  rw[fQ] at hd
  cases e:rs[i]? with
  | none=>rw[e] at hd; simp at hd
  | some r=>rw[e] at hd; simp at hd; exact⟨r,rfl,by rw[hd]; exact a⟩
 refine Oe (fun i=>decide ((rs.getD i ⟨"",0,"",0,0⟩).w=t)) (fun i=>.int (((rs.getD i ⟨"",0,"",0,0⟩).s:Nat)-1)) (fun R hR=>?_) hp (by omega) (fun i x H' hx s' R hR=>?_) (fun i x H' hx hk s' R hR=>?_) (fun acc H' s' hacc hl=>?_)
 ·walk_at "rd"; exact hR
 ·obtain⟨r,er,ax⟩:=row i x hx
  obtain⟨b,rfl,hb⟩:=row_shape ax
  have eg:rs.getD i ⟨"",0,"",0,0⟩=r:=by rw[gC,er]; rfl
  rw[eg] at hR
  walk_at "rd"
  refine Ix.tup (s' _ _ hb) (bz (j:=0) rfl) ?_
  walk_at "cap"
  walk_at "rd"
  exact hR
 ·obtain⟨r,er,ax⟩:=row i x hx
  obtain⟨b,rfl,hb⟩:=row_shape ax
  have eg:rs.getD i ⟨"",0,"",0,0⟩=r:=by rw[gC,er]; rfl
  rw[eg] at hR
  walk_at "rd"
  refine Ix.tup (s' _ _ hb) (bz (j:=1) rfl) ?_
  walk_at "rd"
  exact hR
 ·have hl':H' acc=some (.lst ((((List.range xs.length).filter fun i=>decide ((rs.getD i ⟨"",0,"",0,0⟩).w=t)).map fun i=>(((rs.getD i ⟨"",0,"",0,0⟩).s:Nat):Int)-1).map V.int)):=by rw[hl,List.map_map]; rfl
  have mem:∀y,y∈(((List.range xs.length).filter fun i=>decide ((rs.getD i ⟨"",0,"",0,0⟩).w=t)).map fun i=>(((rs.getD i ⟨"",0,"",0,0⟩).s:Nat):Int)-1)↔∃r∈rs,r.w=t/\(r.s:Int)-1=y:=fun y=>by
   simp only[iK,List.mem_filter,Di,decide_eq_true_eq]
   constructor
   ·rintro⟨i,⟨hi,hw⟩,rfl⟩
    have e:rs.getD i ⟨"",0,"",0,0⟩=rs[i]'(by omega):=by rw[gC,fD (by omega)]; rfl
    rw[e] at hw ⊢
    exact⟨_,Jx _,hw,rfl⟩
   ·rintro⟨r,hr',hw,rfl⟩
    obtain⟨i,hi,e⟩:=List.mem_iff_getElem.mp hr'
    have e':rs.getD i ⟨"",0,"",0,0⟩=r:=by rw[gC,fD hi,<- e]; rfl
    exact⟨i,⟨by omega,by rw[e']; exact hw⟩,by rw[e']⟩
  generalize (((List.range xs.length).filter fun i=>decide ((rs.getD i ⟨"",0,"",0,0⟩).w=t)).map fun i=>(((rs.getD i ⟨"",0,"",0,0⟩).s:Nat):Int)-1)=ns at hl' mem
  refine⟨acc,ns,rfl,hl',fun e=>?_,fun b r e=>?_⟩
  ·have:(0:Int)=bO rs t:=by
    refine Cg.one (rs:=rs) (w:=t) ⟨pJ 0,fun r hr' hw=>?_,.inl rfl⟩ (yN rs t)
    have:=(mem ((r.s:Int)-1)).mpr ⟨r,hr',hw,rfl⟩
    rw[e] at this
    simp at this
   rw[this]
   exact q H' s'
  ·have:fO b r=bO rs t:=by
    obtain⟨m1,m2⟩:=vm r b
    rw[<- e] at m1 m2
    obtain⟨r',h1,h2,h3⟩:=(mem _).mp m2
    refine Cg.one (rs:=rs) (w:=t) ⟨?_,fun x hx hw=>m1 _ ((mem _).mpr ⟨x,hx,hw,rfl⟩),.inr ⟨r',h1,h2,h3⟩⟩ (yN rs t)
    have:=(hR r' h1).s
    omega
   rw[this]
   exact q H' s'
theorem JD {H:Hp} {x:dB} {v:V} (h:At H (jn x) v):∃a b c d ws,v=.ref a/\H a=some (.tup [.int x.p,.int x.m,.ref b,.int x.a,.int x.e,.ref c,.ref d])/\H d=some (.tup ws)/\ak H (x.eN.map qY) ws:=by
 obtain⟨a,b,c,d,rfl,h1,_⟩:=lN h
 obtain⟨a',xs,e,h2,h3⟩:=bx h
 cases e
 rw[h1] at h2
 cases h2
 obtain⟨_,_,e,b0,h3⟩:=ak.bA h3
 cases e
 obtain⟨_,_,e,b0,h3⟩:=ak.bA h3
 cases e
 obtain⟨_,_,e,b0,h3⟩:=ak.bA h3
 cases e
 obtain⟨_,_,e,b0,h3⟩:=ak.bA h3
 cases e
 obtain⟨_,_,e,b0,h3⟩:=ak.bA h3
 cases e
 obtain⟨_,_,e,b0,h3⟩:=ak.bA h3
 cases e
 obtain⟨_,_,e,b6,h3⟩:=ak.bA h3
 cases e
 obtain⟨d',ws,e,g1,g2⟩:=bx b6
 cases e
 exact⟨a,b,c,d,ws,rfl,h1,g1,g2⟩
structure Vw (x:dB):Prop where
 n:x.eN.flatten.length<=900
 r:∀r∈x.eN.flatten,oV r
noncomputable def Gb:Sp:=fun vs H Q _=>∃(v:V) (x:dB),vs=[v]/\At H (jn x) v/\Vw x/\∀p H',aG H H'->H' p=some (.tup ((gU x).map V.int))->Q (.ref p) H'
theorem Ai:bf ["post","rows"] ["post"] (aK wy):=(by walk_at "c")
theorem Qi (F:jr K "needed" "needed" wy f fd) (B:Bi mg) (O:Co K mg) (mU:Ct P w K mg base k "most_ahead" ["rows","what"] CP):bZ P w K mg base jj (k+1) f fd ["post"] Gb:=by
 refine F.ok Ai (by rintro vs H Q E ⟨v,x,rfl,_⟩; rfl) (fun cdv A outer s H vs Q E hr h=>?_)
 obtain⟨v,x,rfl,hv,hN,q⟩:=h
 have ND:=Ai.nd
 refine⟨_,(aq (aZ (i:=1) ND rfl (by walk_at "o") (TQ (N':=["rule","row"]) (js:=[]) rfl (fU (K:=K) rfl (aX aQ (pv 0) ao (fun _ _=>rfl))) jz.of rfl rfl (by decide) rfl rfl (fun fp s' H'=>(fU (K:=K) rfl (pv 0))) (fun fp s' H'=>(pv 1)))) (aH (a_ (pt (b8) B.tuple cg (aa (jY (N':=["what","rows"]) (js:=[1]) rfl (fU (K:=K) rfl (MF (K:=K) rfl O.Zd)) yP.mk1 rfl (by decide) rfl (fun fp s' H'=>(pf mU hr (aa (pv 1) (aa (pv 0) aj))))) aj))))),?_⟩
 obtain⟨a,b,c,d,ws,rfl,h1,h2,h3⟩:=JD hv
 walk_at "rd"
 have eD:x.eN.map qY=(x.eN.map fun rs=>rs.map qi).map PyData.tuple:=by rw[List.map_map]; rfl
 have eF:(x.eN.map fun rs=>rs.map qi).flatten=x.eN.flatten.map qi:=by rw[List.map_flatten]
 rw[eD] at h3
 refine Ve _ (fun R hR=>?_) h2 h3 (by rw[eF,bM]; have:=hN.n; omega) (fun y H' R hR=>?_) (fun y z H' R hR=>?_) (fun acc ys H' s' hacc hl hA=>?_)
 ·walk_at "rd"
  exact Ix.tup h1 (bz (j:=6) rfl) hR
 ·walk_at "rd"; exact hR
 ·walk_at "rd"; exact hR
 rw[eF] at hA
 refine Vd (es:=(gU x).map PyData.int) rfl (by show 3<=sizeLine; decide) rfl (fun i u e H2 hu he s2 R hR=>?_) (fun K9 ys2 H2 s2 NQ hl2 hA2=>?_)
 ·walk_at "cap"
  walk_at "rd"
  have hi:i<3:=by
   by_cases z:i<3
   ·exact z
   ·rw[S_ (by show 3<=i; omega)] at hu; cases hu
  have go:∀(E2:XK) t,u=.str t->e=.int (bO x.eN.flatten t)->CP ([V.ref acc,u]++[]) H2 R E2:=fun E2 t e1 e2=>by
   rw[e1]
   exact⟨acc,t,x.eN.flatten,ys,rfl,s2 _ _ hl,(hA.mono s').mono s2,(by have:=hN.n; omega),hN.r,fun H3 s3=>hR _ _ s3 (by rw[e2]; exact At.int _)⟩
  match i,hi,hu,he with
  | 0,_,hu,he=>cases hu; cases he; exact go _ "come" rfl rfl
  | 1,_,hu,he=>cases hu; cases he; exact go _ "done" rfl rfl
  | 2,_,hu,he=>cases hu; cases he; exact go _ "wait" rfl rfl
 ·cases cu hA2
  refine⟨K9,_,rfl,hl2,fun l hl3=>?_⟩
  exact q l _ (s'.trans (s2.trans (aM hl3 _))) aC
theorem RN (ws:List Int):PyData.hasDict (dw ws)=false/\PyData.canLay0 (dw ws)=true/\PyData.depth (dw ws)=1:=by
 obtain⟨d1,d2,d3⟩:=pG ws
 exact⟨by simpa[dw,PyData.hasDict] using d1,by simpa[dw,PyData.canLay0] using d2,by show PyData.depthAll _+1=1; rw[d3]⟩
theorem FN:∀us:List (List Int),PyData.hasDictAll (us.map dw)=false/\PyData.canLayAll0 (us.map dw)=true/\PyData.depthAll (us.map dw)<=1
 | []=>⟨rfl,rfl,e_ _⟩
 | u::us=>by
  obtain⟨h1,h2,h3⟩:=FN us
  obtain⟨g1,g2,g3⟩:=RN u
  refine⟨?_,?_,?_⟩
  ·show(PyData.hasDict (dw u) || PyData.hasDictAll (us.map dw))=false
   rw[h1,g1]; rfl
  ·show(PyData.canLay0 (dw u)&&PyData.canLayAll0 (us.map dw))=true
   rw[h2,g2]; rfl
  ·show max (PyData.depth (dw u)) (PyData.depthAll (us.map dw))<=1
   rw[g3]; omega
theorem Wg (n:dX):PyData.hasDict (jk n)=false/\PyData.canLay0 (jk n)=true/\PyData.depth (jk n)<=60:=by
 obtain⟨d1,d2,d3⟩:=pG n.cs
 obtain⟨e1,e2,e3⟩:=FN n.us
 refine⟨by simpa[jk,PyData.hasDict,PyData.hasDictAll] using⟨d1,e1⟩,by simpa[jk,PyData.canLay0,PyData.canLayAll0] using⟨d2,e2⟩,?_⟩
 simp only[jk,PyData.depth,PyData.depthAll,d3]
 omega
theorem xW:∀ns ms:List Int,PyData.eqvAll (ns.map PyData.int) (ms.map PyData.int)=decide (ns=ms)
 | [],[]=>by simp[PyData.eqvAll]
 | [],_::_=>by simp[PyData.eqvAll]
 | _::_,[]=>by simp[PyData.eqvAll]
 | a::r,b::t=>by
  have ih:=xW r t
  simp only[q_,PyData.eqvAll,PyData.eqv,ih]
  by_cases h1:a=b
  ·by_cases h2:r=t
   ·simp[h1,h2]
   ·simp[h1,h2]
  ·simp[h1]
theorem HQ:∀us vs:List (List Int),PyData.eqvAll (us.map dw) (vs.map dw)=true↔us=vs
 | [],[]=>by simp[PyData.eqvAll]
 | [],_::_=>by simp[PyData.eqvAll]
 | _::_,[]=>by simp[PyData.eqvAll]
 | a::r,b::t=>by
  have ih:=HQ r t
  have e:PyData.eqvAll ((a::r).map dw) ((b::t).map dw)=(PyData.eqvAll (a.map PyData.int) (b.map PyData.int)&&PyData.eqvAll (r.map dw) (t.map dw)):=by simp[PyData.eqvAll,PyData.eqv,dw]
  rw[e,xW,wM,decide_eq_true_eq,ih]
  simp
theorem aa4 (a b:dX):PyData.eqv (jk a) (jk b)=true↔a=b:=by
 have e:PyData.eqv (jk a) (jk b)=((a.w==b.w)&&((a.r==b.r)&&(PyData.eqvAll (a.cs.map PyData.int) (b.cs.map PyData.int)&&((a.s==b.s)&&((a.t==b.t)&&PyData.eqvAll (a.us.map dw) (b.us.map dw)))))):=by
  simp[jk,PyData.eqv,PyData.eqvAll]
 rw[e,xW]
 simp only[wM,HQ,decide_eq_true_eq,beq_iff_eq]
 cases a
 cases b
 simp
noncomputable def eY (ws:List Int) (i:Nat) (u:List Int):List Int:=(List.range 3).map fun j=>if ws.getD j 0>i then u.getD j 0 else 0
noncomputable def xR (ws:List Int) (us:List (List Int)):List (List Int):=(List.range 3).map fun i=>eY ws i (us.getD i [])
noncomputable def j0 (x:dB) (st:dX):dX:=⟨st.w,st.r,st.cs,if x.e-1<st.s then x.e-1 else st.s,st.t,xR (gU x) st.us⟩
theorem DP {x:dB} {st:dX} (h:jo st):jo (j0 x st):=⟨h.c,rfl,fun y hy=>by
 obtain⟨i,_,rfl⟩:=iK.mp (show y∈xR (gU x) st.us from hy)
 rfl⟩
noncomputable def Lq:Sp:=fun vs H Q _=>∃(t b:Addr) (i:Nat) (u ws:List Int),vs=[.ref t,.int i,.ref b]/\H t=some (.tup (u.map V.int))/\H b=some (.tup (ws.map V.int))/\u.length=3/\ws.length=3/\∀p H',aG H H'->H' p=some (.tup ((eY ws i u).map V.int))->Q (.ref p) H'
theorem nM:bf ["triple","place","wants"] ["triple","place","wants"] (aK km):=(by walk_at "c")
theorem xu (F:jr K "lean_triple" "lean_triple" km f fd) (B:Bi mg):bZ P w K mg base jj (k+1) f fd ["triple","place","wants"] Lq:=by
 refine F.ok nM (by rintro vs H Q E ⟨t,b,i,u,ws,rfl,_⟩; rfl) (fun cdv A outer s H vs Q E hr h=>?_)
 obtain⟨t,b,i,u,ws,rfl,h1,h2,n1,n2,q⟩:=h
 have ND:=nM.nd
 refine⟨_,(aH (a_ (pt (b8) B.tuple cg (aa (fu (nt:=2) (N':=["number","want","place"]) (js:=[1]) rfl (oY (K:=K) rfl B.zip (aa (pv 0) (aa (pv 2) aj))) jz.of (fun fp s' H'=>(bH (K:=K) (n:=2) rfl rfl (aD (aF (i:=0) (by show List.Nodup (["number","want","place"]:List Str); decide) rfl (.inl (iJ rfl)) (.inr (iJ rfl))) (aD (aF (i:=1) (by show List.Nodup (["number","want","place"]:List Str); decide) rfl (.inl (iJ rfl)) (.inr (iJ rfl))) bG)))) (fun fp s' H'=>gF) (fun fp s' H'=>(eE (bc jZ (pv 1) (pv 2) (bh _)) (pv 0) ao))) aj)))),?_⟩
 walk_at "rd"
 refine BL (es:=(eY ws i u).map PyData.int) (fun R hR=>?_) h1 h2 (by rw[bM,n1]; rfl) (by rw[bM,n2]; rfl) (by show 3<=sizeLine; decide) (cX.mpr fun d hd=>by obtain⟨z,_,rfl⟩:=iK.mp hd; rfl) (fun j x y e H' hx hy he s' R hR=>?_) (fun acc zs H' s' hacc hl hA=>?_)
 ·walk_at "rd"; exact hR
 ·rw[fQ] at hx hy
  obtain⟨x',ex,rfl⟩:=kJ.mp hx
  obtain⟨y',ey,rfl⟩:=kJ.mp hy
  have ee:e=.int (if y'>i then x' else 0):=by
   rw[fQ] at he
   obtain⟨z,ez,rfl⟩:=kJ.mp he
   unfold eY at ez
   rw[fQ] at ez
   obtain⟨j',ej,rfl⟩:=kJ.mp ez
   have:j'=j:=by
    obtain⟨hh,e2⟩:=fj.mp ej
    rw[Hb] at e2
    exact e2.symm
   subst this
   rw[gC,gC,ex,ey]
   rfl
  walk_at "cap"
  walk_at "rd"
  refine gP (fun c=>?_) (fun c=>?_)
  ·refine hR _ _ (aG.refl _) ?_
   rw[ee,aP (by have:=yX c; omega)]
   exact At.int _
  ·refine hR _ _ (aG.refl _) ?_
   rw[ee,bB (by have:=yZ c; omega)]
   exact At.int _
 ·cases cu hA
  refine⟨acc,_,rfl,hl,fun l hl3=>?_⟩
  exact q l _ (s'.trans (aM hl3 _)) aC
noncomputable def CQ:Sp:=fun vs H Q _=>∃(v u:V) (x:dB) (st:dX),vs=[v,u]/\At H (jn x) v/\At H (jk st) u/\Vw x/\jo st/\∀u' H',aG H H'->At H' (jk (j0 x st)) u'->Q u' H'
theorem Lean.of {v u:V} {x:dB} {st:dX} {H:Hp} {Q:VK} {E:XK} (a1:At H (jn x) v) (a2:At H (jk st) u) (n:Vw x) (i:jo st) (q:∀u' H',aG H H'->At H' (jk (j0 x st)) u'->Q u' H'):CQ ([v,u]++[]) H Q E:=⟨v,u,x,st,rfl,a1,a2,n,i,q⟩
theorem LR:bf ["post","stand","wait","ready","called","since","rest","seen","wants","lean_seen"] ["post","stand"] (aK Jp):=(by walk_at "c")
theorem W7 (F:jr K "lean" "lean" Jp f fd) (B:Bi mg) (yG:Ct P w K mg base k "needed" ["post"] Gb) (lq:Ct P w K mg base k "lean_triple" ["triple","place","wants"] Lq):bZ P w K mg base jj (k+1) f fd ["post","stand"] CQ:=by
 refine F.ok LR (by rintro vs H Q E ⟨v,u,x,st,rfl,_⟩; rfl) (fun cdv A outer s H vs Q E hr h=>?_)
 obtain⟨v,u,x,st,rfl,hv,hu,hN,hS,q⟩:=h
 have ND:=LR.nd
 refine⟨_,(aq (cL (pv 1) (bH (K:=K) (n:=6) rfl rfl (aD (aF (i:=2) ND rfl (by walk_at "o")) (aD (aF (i:=3) ND rfl (by walk_at "o")) (aD (aF (i:=4) ND rfl (by walk_at "o")) (aD (aF (i:=5) ND rfl (by walk_at "o")) (aD (aF (i:=6) ND rfl (by walk_at "o")) (aD (aF (i:=7) ND rfl (by walk_at "o")) bG)))))))) (aq (aZ (i:=8) ND rfl (by walk_at "o") (pf yG hr (aa (pv 0) aj))) (aq (aZ (i:=9) ND rfl (by walk_at "o") (pt (b8) B.tuple cg (aa (fu (nt:=2) (N':=["place","triple","wants"]) (js:=[8]) rfl (Hj (K:=K) rfl B.enumerate (aa (pv 7) aj)) jz.of (fun fp s' H'=>(bH (K:=K) (n:=2) rfl rfl (aD (aF (i:=0) (by show List.Nodup (["place","triple","wants"]:List Str); decide) rfl (.inl (iJ rfl)) (.inr (iJ rfl))) (aD (aF (i:=1) (by show List.Nodup (["place","triple","wants"]:List Str); decide) rfl (.inl (iJ rfl)) (.inr (iJ rfl))) bG)))) (fun fp s' H'=>gF) (fun fp s' H'=>(pf lq hr (aa (pv 1) (aa (pv 0) (aa (pv 2) aj)))))) aj))) (aH (a_ (aY (aa (pv 2) (aa (pv 3) (aa (pv 4) (aa (pb (dz rfl) B.min gk (aa (pv 5) (aa (aV dR (aX aQ (pv 0) ao (fun _ _=>rfl)) ao) aj))) (aa (pv 6) (aa (pv 9) aj)))))))))))),?_⟩
 obtain⟨a,b,c,rfl,h1,h2,h3⟩:=fC hu
 obtain⟨pa,pb,pc,pd,rfl,g1,_⟩:=lN hv
 walk_at "rd"
 refine⟨a,_,rfl,cB.of h1,rfl,?_⟩
 walk_at "rd"
 refine⟨_,x,rfl,hv,hN,fun p H1 s1 e1=>?_⟩
 walk_at "rd"
 obtain⟨c',zs,ec,h4,h5⟩:=bx h3
 cases ec
 have hzl:zs.length=3:=by rw[h5.length,bM,hS.u]
 refine Ky (es:=(xR (gU x) st.us).map dw) (fun R hR=>?_) (s1 _ _ h4) (by rw[hzl]; rfl) (by show 3<=sizeLine; decide) (cX.mpr fun d hd=>by
   obtain⟨z,_,rfl⟩:=iK.mp hd
   exact cX.mpr fun d hd=>by obtain⟨z,_,rfl⟩:=iK.mp hd; rfl) (fun j y e H' hy he s' R hR=>?_) (fun acc zs' H' s' hacc hl hA=>?_)
 ·walk_at "rd"; exact hR
 ·obtain⟨d,hd,ay⟩:=h5.get hy
  rw[fQ] at hd
  obtain⟨t,et,rfl⟩:=kJ.mp hd
  have ht3:t.length=3:=hS.l t (je et)
  obtain⟨ty,ts,rfl,k1,k2⟩:=bx ay
  cases cu k2
  have ee:e=dw (eY (gU x) j t):=by
   rw[fQ] at he
   obtain⟨z,ez,rfl⟩:=kJ.mp he
   unfold xR at ez
   rw[fQ] at ez
   obtain⟨j',ej,rfl⟩:=kJ.mp ez
   have:j'=j:=by
    obtain⟨hh,e2⟩:=fj.mp ej
    rw[Hb] at e2
    exact e2.symm
   subst this
   rw[gC,et]
   rfl
  walk_at "cap"
  walk_at "rd"
  refine⟨ty,p,j,t,gU x,rfl,s' _ _ (s1 _ _ k1),s' _ _ e1,ht3,rfl,fun r H2 s2 e2=>?_⟩
  refine hR _ _ s2 ?_
  rw[ee]
  exact At.tup e2 (bw _)
 ·refine⟨acc,zs',rfl,hl,fun l hl3=>?_⟩
  have sl:=aM hl3 (HO.tup zs')
  have A1:At (upd H' l (.tup zs')) (.tuple ((xR (gU x) st.us).map dw)) (.ref l):=At.tup aC ((hA.mono fW).mono sl)
  refine Ix.tup (sl _ _ (s' _ _ (s1 _ _ g1))) (bz (j:=4) rfl) ?_
  walk_at "rd"
  refine⟨(by show 6<=sizeLine; decide),fun r H3 f3 s3 e3=>?_⟩
  have ss:aG H H3:=s1.trans (s'.trans (sl.trans s3))
  refine q _ _ ss (At.tup e3 ?_)
  exact ak.cons (At.int _) (ak.cons (At.int _) (ak.cons (At.tup (ss _ _ h2) (bw _)) (ak.cons (At.int _) (ak.cons (At.int _) (ak.cons (A1.mono s3) ak.nil)))))
noncomputable def ou (x:dB) (st:dX) (c:Int):dX:=dM x (dU x st c) (rT x st c 12)
theorem V7 {x:dB} {st:dX} {ch:Int} (hx:oW x) (hs:jo st):jo (dM x st ch):=by
 have hc:=hs.c
 have ha:=hx.a
 unfold dM
 split
 ·exact hs
 ·split
  ·refine⟨?_,hs.u,hs.l⟩
   simp only[gH,jG,wO,jF,GR]
   omega
  ·refine⟨?_,hs.u,hs.l⟩
   simp only[mL]
   exact hc
theorem Dw {x:dB} {st:dX} {c:Int} (hx:oW x) (hs:jo st):jo (ou x st c):=V7 hx (Hw hs)
theorem jJ {H:Hp} {x:dB} {v:V} (h:At H (jn x) v):∃a b c d,v=.ref a/\H a=some (.tup [.int x.p,.int x.m,.ref b,.int x.a,.int x.e,.ref c,.ref d])/\H b=some (.tup [.int x.lo,.int x.hi])/\H c=some (.tup [.int x.u,.int x.d])/\At H (Js x.eN) (.ref d):=by
 obtain⟨a,xs,rfl,h1,h2⟩:=bx h
 obtain⟨x0,_,rfl,b0,h2⟩:=ak.bA h2
 obtain⟨x1,_,rfl,b1,h2⟩:=ak.bA h2
 obtain⟨x2,_,rfl,b2,h2⟩:=ak.bA h2
 obtain⟨x3,_,rfl,b3,h2⟩:=ak.bA h2
 obtain⟨x4,_,rfl,b4,h2⟩:=ak.bA h2
 obtain⟨x5,_,rfl,b5,h2⟩:=ak.bA h2
 obtain⟨x6,_,rfl,b6,h2⟩:=ak.bA h2
 cases ak.nD h2
 unfold At at b0 b1 b3 b4
 subst b0 b1 b3 b4
 obtain⟨b,ys,rfl,g3,g4⟩:=bx b2
 obtain⟨c,zs,rfl,g1,g2⟩:=bx b5
 obtain⟨d,ws,rfl,_,_⟩:=bx b6
 cases cu (cs:=[x.u,x.d]) g2
 cases cu (cs:=[x.lo,x.hi]) g4
 exact⟨a,b,c,d,rfl,h1,g3,g1,b6⟩
theorem oG:∀cs:List Int,bN (cs.map PyData.int)=true
 | []=>rfl
 | c::cs=>by show(uQ (.int c)&&bN (cs.map .int))=true; rw[oG cs]; rfl
theorem vL:∀us:List (List Int),bN (us.map dw)=true
 | []=>rfl
 | u::us=>by
  show(bN (u.map PyData.int)&&bN (us.map dw))=true
  rw[vL us,oG u]; rfl
theorem CN (n:dX):uQ (jk n)=true:=by
 simp only[jk,uQ,bN,oG,vL,Bool.and_self]
noncomputable def R9 (K:PySem.W.Frag):Sp:=fun vs H Q _=>∃(s:Addr) (ns:List Int) (i:Int),vs=[.ref s,.int i]/\dh K H s (ns.map V.int)/\0<=i/\i<=1000/\∀p H',H p=none->aG H H'->Tp H' p 0->Q (.ref p) H'
theorem Al:bf ["_law_script","_law_k","_law_cell"] ["_law_script","_law_k"] (aK wC):=(by walk_at "c")
theorem Ql (F:jr K "_law_tape" "_law_tape" wC f fd) (B:Bi mg):bZ P w K mg base jj (k+1) f fd ["_law_script","_law_k"] (R9 K):=by
 refine F.ok Al (by rintro vs H Q E ⟨a,ns,i,rfl,_⟩; rfl) (fun cdv A outer s H vs Q E hr h=>?_)
 obtain⟨a,ns,i,rfl,hS,h0,h1,q⟩:=h
 have ND:=Al.nd
 refine⟨_,(aq (aZ (i:=2) ND rfl (by walk_at "o") (eE (bc uF (pv 1) (pb (fY (K:=K) rfl) B.len mY (aa (pv 0) aj)) (bh _)) (aX Np (pv 0) (pv 1) (fun _ _=>rfl)) ao)) (aH (a_ (aal (aa (aV gK (pb (HX) B.abs Vo (aa (pv 2) aj)) (pt (lV) B.int uh (aa (fK M4 (pb (HX) B.abs Vo (aa (pv 2) aj)) (aV JM ao ao) (bh _)) aj))) (aa (aV bD (aV bD (aV mF (pv 2) ao) (aV gK ao (pv 1))) ao) (aa ao aj))))))),?_⟩
 walk_at "rd"
 refine⟨a,_,rfl,.inl hS,?_⟩
 show ∃i_1 j,V.int i=V.int i_1/\V.int ((ns.map V.int).length:Int)=V.int j/\_
 walk_at "rd"
 have abf:∀c:Int,0<=(if c<0 then -c else c):=fun c=>by split <;> omega
 have fin:∀(c x y:Int),x=(if c<0 then -c else c)*(if decide (10 ^ Int.toNat 18<=(if c<0 then -c else c))=true then 1 else 0)->y=c % 2305843009213693951+39373*i+17->∀p,H p=none->Q (.ref p) (upd H p (.lst [.int x,.int y,.int 0])):=fun c x y ex ey p hp=>by
  have hx:0<=x:=by
   rw[ex]
   have nn:=abf c
   generalize (if c<0 then -c else c)=u at nn ⊢
   split
   ·rw[Int.mul_one]; exact nn
   ·rw[Int.mul_zero]; exact pJ 0
  have h2:=Gq c (show(2305843009213693951:Int)≠0 by decide)
  have h3:=Gr c (show(0:Int)<2305843009213693951 by decide)
  exact q p _ hp (aM hp _) ⟨x,y,0,aC,hx,by omega,by omega,pJ 0,pJ 0⟩
 have cm:∀(c:Int) (b:Bool),VD c (if b=true then 1 else 0):=fun c b=>.inr (by cases b <;> decide)
 refine gP (fun c1=>?_) (fun c1=>?_)
 ·have c1':=yX c1
  have hi:i.toNat<ns.length:=by rw[bM] at c1'; omega
  refine⟨a,_,i,.int (ns[i.toNat]),rfl,rfl,hS,?_,?_⟩
  ·have:=bz (xs:=ns.map V.int) (j:=i.toNat) (v:=.int (ns[i.toNat])) (by rw[fQ,fD hi]; rfl)
   rwa [show((i.toNat:Nat):Int)=i by omega] at this
  ·walk_at "rd"
   refine⟨⟨by decide,by decide,by decide⟩,cm _ _,by decide,.inl (by decide),(by show 3<=sizeLine; decide),fun p hp=>?_⟩
   exact fin _ _ _ rfl rfl p hp
 ·refine⟨⟨by decide,by decide,by decide⟩,cm _ _,by decide,.inl (by decide),(by show 3<=sizeLine; decide),fun p hp=>?_⟩
  exact fin 0 _ _ rfl rfl p hp
noncomputable def pZ:Sp:=fun vs H Q _=>∃(a:Addr) (m:Int) (n:Nat),vs=[.ref a,.int m]/\Tp H a n/\n<=1000000000/\0<m/\m<1000000000000000/\∀v H',0<=v->v<m->Tp H' a (n+1)->SX a H H'->Q (.int v) H'
theorem An:bf ["_law_tape_here","_law_many","_law_found","_law_once","_law_twice"] ["_law_tape_here","_law_many"] (aK wF):=(by walk_at "c")
theorem Qn (F:jr K "_law_draw" "_law_draw" wF f fd) (B:Bi mg):bZ P w K mg base jj (k+1) f fd ["_law_tape_here","_law_many"] pZ:=by
 refine F.ok An (by rintro vs H Q E ⟨a,m,n,rfl,_⟩; rfl) (fun cdv A outer s H vs Q E hr h=>?_)
 obtain⟨a,m,n,rfl,⟨x,y,z,hT,hx,hy,hy2,hz,hz2⟩,hn,hm,hm2,q⟩:=h
 have ND:=An.nd
 refine⟨_,(aq (dC (bc jZ (aX aQ (pv 0) ao (fun _ _=>rfl)) ao (bh _)) (aq (aZ (i:=2) ND rfl (by walk_at "o") (aV mF (aX aQ (pv 0) ao (fun _ _=>rfl)) (pv 1))) (aq (cL (aV xm (aX aQ (pv 0) ao (fun _ _=>rfl)) (pv 1)) (qj (pv 0) ao set_list)) (aH (a_ (pv 2))))) bR) (aq (cL (aV bD (aX aQ (pv 0) ao (fun _ _=>rfl)) ao) (qj (pv 0) ao set_list)) (aq (aZ (i:=3) ND rfl (by walk_at "o") (aV mF (aV JM (aV bD (aX aQ (pv 0) ao (fun _ _=>rfl)) (aV gK ao (aX aQ (pv 0) ao (fun _ _=>rfl)))) ao) ao)) (aq (aZ (i:=4) ND rfl (by walk_at "o") (aV mF (aV gK (aV bD (pv 3) (aX aQ (pv 0) ao (fun _ _=>rfl))) (aV bD (aV bD (aV mF (pv 3) ao) ao) (aX aQ (pv 0) ao (fun _ _=>rfl)))) ao)) (aH (a_ (aV mF (aV W4 (aV mF (aV bD (aV gK (pv 4) ao) (pv 3)) ao) ao) (pv 1)))))))),?_⟩
 walk_at "rd"
 refine Ix.lst hT (bz (j:=0) rfl) ?_
 walk_at "rd"
 refine gP (fun c1=>?_) (fun c1=>?_)
 ·refine Ix.lst hT (bz (j:=0) rfl) ?_
  walk_at "rd"
  refine⟨hm,Ix.lst hT (bz (j:=0) rfl) ?_⟩
  walk_at "rd"
  refine⟨⟨hm,Int.lt_trans hm2 (by decide)⟩,a,_,0,0,rfl,rfl,hT,rfl,?_⟩
  refine q _ _ (Gq _ (by omega)) (Gr _ hm) ⟨x / m,y,z,aC,Int.ediv_nonneg hx (by omega),hy,hy2,hz,by omega⟩ SX.upd
 ·refine Ix.lst hT (bz (j:=2) rfl) ?_
  walk_at "rd"
  refine⟨a,_,2,2,rfl,rfl,hT,rfl,?_⟩
  have hT2:upd H a (.lst [.int x,.int y,.int (z+1)]) a=some (.lst [.int x,.int y,.int (z+1)]):=aC
  show Df (V.ref a) (V.int 1) (upd H a (.lst [.int x,.int y,.int (z+1)])) _
  generalize eH:upd H a (.lst [.int x,.int y,.int (z+1)])=H2 at hT2 ⊢
  have sx:SX a H H2:=by rw[<- eH]; exact SX.upd
  refine Ix.lst hT2 (bz (j:=1) rfl) (Ix.lst hT2 (bz (j:=2) rfl) ?_)
  walk_at "rd"
  refine⟨.inl (by decide),⟨by decide,by decide,by omega⟩,by decide,Ix.lst hT2 (bz (j:=2) rfl) ?_⟩
  generalize eo:(y+39373*(z+1)) ^ Int.toNat 5 % 2147483647=o
  have o1:0<=o:=by rw[<- eo]; exact Gq _ (by decide)
  have o2:o<2147483647:=by rw[<- eo]; exact Gr _ (by decide)
  walk_at "rd"
  refine⟨by decide,Ix.lst hT2 (bz (j:=2) rfl) ?_⟩
  walk_at "rd"
  have m1:=Gq o (show(40009:Int)≠0 by decide)
  have m2:=Gr o (show(0:Int)<40009 by decide)
  refine⟨.inl (by omega),by decide,?_⟩
  generalize et:(o+(z+1))*(o % 40009+7+(z+1)) % 2147483629=t
  have t1:0<=t:=by rw[<- et]; exact Gq _ (by decide)
  have t2:t<2147483629:=by rw[<- et]; exact Gr _ (by decide)
  refine⟨.inl (by omega),by decide,⟨by decide,by decide⟩,hm,?_⟩
  exact q _ _ (Gq _ (by omega)) (Gr _ hm) ⟨x,y,z+1,hT2,hx,hy,hy2,by omega,by omega⟩ sx
theorem gQ.of {a:Addr} {m:Int} {n:Nat} {H:Hp} {Q:VK} {E:XK} (t:Tp H a n) (hn:n<=1000000000) (h1:0<m) (h2:m<1000000000000000) (q:∀v H',0<=v->v<m->Tp H' a (n+1)->SX a H H'->Q (.int v) H'):pZ ([.ref a,.int m]++[]) H Q E:=⟨a,m,n,rfl,t,hn,h1,h2,q⟩
noncomputable def U12 (i:Int):Prop:=0<=i/\i<=1000000000000
noncomputable def Vt (u:List Int):Prop:=∃a b c,u=[a,b,c]/\U12 a/\U12 b/\U12 c
noncomputable abbrev Cv:=List (Int×Int)
noncomputable def prD (p:Int×Int):PyData:=.tuple [.int p.1,.int p.2]
noncomputable def Fo (c:Cv):PyData:=.tuple (c.map prD)
theorem Tt {H:Hp} {p:Int×Int} {v:V} (h:At H (prD p) v):∃a,v=.ref a/\H a=some (.tup [.int p.1,.int p.2]):=by
 obtain⟨a,xs,rfl,h1,h2⟩:=bx h
 obtain⟨x1,_,rfl,a1,h2⟩:=ak.bA h2
 obtain⟨x2,_,rfl,a2,h2⟩:=ak.bA h2
 cases ak.nD h2
 unfold At at a1 a2
 subst a1 a2
 exact⟨a,rfl,h1⟩
theorem uc {H:Hp} {c:Cv} {xs:List V} (hA:ak H (c.map prD) xs) {i:Nat} {x:V} (hx:xs[i]?=some x):∃a,x=.ref a/\i<c.length/\H a=some (.tup [.int (c.getD i (0,0)).1,.int (c.getD i (0,0)).2]):=by
 obtain⟨d,hd,a⟩:=hA.get hx
 rw[fQ] at hd
 cases e:c[i]? with
 | none=>rw[e] at hd; simp at hd
 | some r=>
  rw[e] at hd; simp at hd
  subst hd
  obtain⟨b,rfl,hb⟩:=Tt a
  have eg:c.getD i (0,0)=r:=by rw[gC,e]; rfl
  obtain⟨hi,_⟩:=fj.mp e
  rw[eg]
  exact⟨b,rfl,hi,hb⟩
theorem lO (l:List Int):bN (l.map PyData.int)=true:=cX.mpr fun d hd=>by obtain⟨z,_,rfl⟩:=iK.mp hd; rfl
theorem ints_get {l:List Int} {i:Nat} {x:V} (h:(l.map V.int)[i]?=some x):i<l.length/\x=.int (l.getD i 0):=by
 rw[fQ] at h
 cases e:l[i]? with
 | none=>rw[e] at h; simp at h
 | some r=>
  rw[e] at h; simp at h
  obtain⟨hi,_⟩:=fj.mp e
  exact⟨hi,by rw[gC,e,<- h]; rfl⟩
theorem lQ {l:List Int} {i:Nat} {x:PyData} (h:(l.map PyData.int)[i]?=some x):i<l.length/\x=.int (l.getD i 0):=by
 rw[fQ] at h
 cases e:l[i]? with
 | none=>rw[e] at h; simp at h
 | some r=>
  rw[e] at h; simp at h
  obtain⟨hi,_⟩:=fj.mp e
  exact⟨hi,by rw[gC,e,<- h]; rfl⟩
noncomputable def vR:Sp:=fun vs H Q _=>∃(v:V) (c:Cv),vs=[v]/\At H (Fo c) v/\c.length<=100/\∀p H',aG H H'->H' p=some (.tup ((c.map (·.1)).map V.int))->Q (.ref p) H'
theorem qR:bf ["curve"] ["curve"] (aK nY):=(by walk_at "c")
theorem Du (F:jr K "bursts_of" "bursts_of" nY f fd) (B:Bi mg):bZ P w K mg base jj (k+1) f fd ["curve"] vR:=by
 refine F.ok qR (by rintro vs H Q E ⟨v,c,rfl,_⟩; rfl) (fun cdv A outer s H vs Q E hr h=>?_)
 obtain⟨v,c,rfl,hv,hn,q⟩:=h
 have ND:=qR.nd
 refine⟨_,(aH (a_ (pt (b8) B.tuple cg (aa (fu (nt:=2) (N':=["burst","rate"]) (js:=[]) rfl (fU (K:=K) rfl (pv 0)) jz.of (fun fp s' H'=>(bH (K:=K) (n:=2) rfl rfl (aD (aF (i:=0) (by show List.Nodup (["burst","rate"]:List Str); decide) rfl (.inl (iJ rfl)) (.inr (iJ rfl))) (aD (aF (i:=1) (by show List.Nodup (["burst","rate"]:List Str); decide) rfl (.inl (iJ rfl)) (.inr (iJ rfl))) bG)))) (fun fp s' H'=>gF) (fun fp s' H'=>(pv 0))) aj)))),?_⟩
 obtain⟨a,xs,rfl,h1,h2⟩:=bx hv
 walk_at "rd"
 have hlen:xs.length=c.length:=by rw[h2.length,bM]
 refine Oc (es:=(c.map (·.1)).map PyData.int) (fun i=>[some (.int (c.getD i (0,0)).1),some (.int (c.getD i (0,0)).2)]) (fun i=>rfl) (fun R hR=>?_) h1 (by rw[bM,bM,hlen]) (by rw[bM,bM]; exact jt (bu (by omega))) (lO _) (fun i x H' hx s' R hR=>?_) (fun i e H' he s' R hR=>?_) (fun acc zs H' s' hacc hl hA=>?_)
 ·walk_at "rd"; exact hR
 ·obtain⟨b,rfl,hi,hb⟩:=uc h2 hx
  refine⟨b,_,rfl,cB.of (s' _ _ hb),rfl,?_⟩
  walk_at "rd"
  exact hR
 ·obtain⟨hi,rfl⟩:=lQ he
  walk_at "rd"
  refine hR _ _ (aG.refl _) ?_
  rw[bM] at hi
  have:(c.map (·.1)).getD i 0=(c.getD i (0,0)).1:=by rw[gC,gC,fQ,fD hi]; rfl
  rw[this]
  exact At.int _
 ·cases cu hA
  refine⟨acc,_,rfl,hl,fun l hl3=>?_⟩
  exact q l _ (s'.trans (aM hl3 _)) aC
noncomputable def aeY:List Int->Int
 | []=>0
 | b::r=>jV b r
noncomputable def cF (c:Cv) (sp:List Int):Int:=aeY (List.zipWith (fun p l=>p.2+l) c sp)
noncomputable def iC (c:Cv) (sp:List Int) (x:Int):List Int:=List.zipWith (fun p l=>if l+p.2-x<p.1 then l+p.2-x else p.1) c sp
theorem IK {c:Cv} {sp:List Int} (g:Int×Int->Int->Int) {i:Nat} (h1:i<c.length) (h2:i<sp.length):(List.zipWith g c sp).getD i 0=g (c.getD i (0,0)) (sp.getD i 0):=by
 rw[gC,gC,gC,fD h1,fD h2,fD (by rw[y_]; omega),List.getElem_zipWith]
 rfl
noncomputable def Jm:Sp:=fun vs H Q _=>∃(v:V) (c:Cv) (q:Addr) (sp:List Int),vs=[v,.ref q]/\At H (Fo c) v/\H q=some (.tup (sp.map V.int))/\sp.length=c.length/\c≠[]/\c.length<=100/\∀H',aG H H'->Q (.int (cF c sp)) H'
theorem qP:bf ["curve","spare"] ["curve","spare"] (aK nU):=(by walk_at "c")
theorem Ds (F:jr K "most_next" "most_next" nU f fd) (B:Bi mg):bZ P w K mg base jj (k+1) f fd ["curve","spare"] Jm:=by
 refine F.ok qP (by rintro vs H Q E ⟨v,c,q,sp,rfl,_⟩; rfl) (fun cdv A outer s H vs Q E hr h=>?_)
 obtain⟨v,c,qa,sp,rfl,hv,hq,hsp,hne,hn,q⟩:=h
 have ND:=qP.nd
 refine⟨_,(aH (a_ (pb (ue rfl) B.min gk (aa (fu (nt:=3) (N':=["burst","rate","left"]) (js:=[]) rfl (oY (K:=K) rfl B.zip (aa (pv 0) (aa (pv 1) aj))) jz.of (fun fp s' H'=>(bH (K:=K) (n:=2) rfl rfl (aD (bH (K:=K) (n:=2) rfl rfl (aD (aF (i:=0) (by show List.Nodup (["burst","rate","left"]:List Str); decide) rfl (.inl (iJ rfl)) (.inr (iJ rfl))) (aD (aF (i:=1) (by show List.Nodup (["burst","rate","left"]:List Str); decide) rfl (.inl (iJ rfl)) (.inr (iJ rfl))) bG))) (aD (aF (i:=2) (by show List.Nodup (["burst","rate","left"]:List Str); decide) rfl (.inl (iJ rfl)) (.inr (iJ rfl))) bG)))) (fun fp s' H'=>gF) (fun fp s' H'=>(aV bD (pv 1) (pv 2)))) aj)))),?_⟩
 obtain⟨a,xs,rfl,h1,h2⟩:=bx hv
 walk_at "rd"
 have hlen:xs.length=c.length:=by rw[h2.length,bM]
 have zl:(List.zipWith (fun p l=>p.2+l) c sp).length=c.length:=by rw[y_]; omega
 refine ud (es:=(List.zipWith (fun p l=>p.2+l) c sp).map PyData.int) (fun i=>[some (.int (c.getD i (0,0)).1),some (.int (c.getD i (0,0)).2),some (.int (sp.getD i 0))]) (fun i=>rfl) (fun R hR=>?_) h1 hq (by rw[bM,zl,hlen]) (by rw[bM,bM,zl,hsp]) (by rw[bM,zl]; exact jt (bu (by omega))) (lO _) (fun i x y p H' hx hy s' hp R hR=>?_) (fun i e H' he s' R hR=>?_) (fun acc zs H' s' hacc hl hA=>?_)
 ·walk_at "rd"; exact hR
 ·obtain⟨b,rfl,hi,hb⟩:=uc h2 hx
  obtain⟨hi2,rfl⟩:=ints_get hy
  refine⟨p,_,rfl,cB.of hp,rfl,?_⟩
  walk_at "rd"
  refine⟨b,_,rfl,cB.of (s' _ _ hb),rfl,?_⟩
  walk_at "rd"
  exact hR
 ·obtain⟨hi,rfl⟩:=lQ he
  walk_at "rd"
  refine hR _ _ (aG.refl _) ?_
  rw[zl] at hi
  rw[IK _ hi (by omega)]
  exact At.int _
 ·cases cu hA
  have zn:List.zipWith (fun p l=>p.2+l) c sp≠[]:=fun z=>by rw[z] at zl; exact hne (Td.mp zl.symm)
  have qq:=q H' s'
  unfold cF at qq
  generalize List.zipWith (fun(p:Int×Int) (l:Int)=>p.2+l) c sp=zz at *
  match zz,zn with
  | b::r,_=>exact⟨acc,b,r,rfl,hl,qq⟩
noncomputable def Sh:Sp:=fun vs H Q _=>∃(v:V) (c:Cv) (q:Addr) (sp:List Int) (x:Int),vs=[v,.ref q,.int x]/\At H (Fo c) v/\H q=some (.tup (sp.map V.int))/\sp.length=c.length/\c.length<=100/\∀p H',aG H H'->H' p=some (.tup ((iC c sp x).map V.int))->Q (.ref p) H'
theorem nH:bf ["curve","spare","come"] ["curve","spare","come"] (aK kh):=(by walk_at "c")
theorem xq (F:jr K "spares_left" "spares_left" kh f fd) (B:Bi mg):bZ P w K mg base jj (k+1) f fd ["curve","spare","come"] Sh:=by
 refine F.ok nH (by rintro vs H Q E ⟨v,c,q,sp,x,rfl,_⟩; rfl) (fun cdv A outer s H vs Q E hr h=>?_)
 obtain⟨v,c,qa,sp,x,rfl,hv,hq,hsp,hn,q⟩:=h
 have ND:=nH.nd
 refine⟨_,(aH (a_ (pt (b8) B.tuple cg (aa (fu (nt:=3) (N':=["burst","rate","left","come"]) (js:=[2]) rfl (oY (K:=K) rfl B.zip (aa (pv 0) (aa (pv 1) aj))) jz.of (fun fp s' H'=>(bH (K:=K) (n:=2) rfl rfl (aD (bH (K:=K) (n:=2) rfl rfl (aD (aF (i:=0) (by show List.Nodup (["burst","rate","left","come"]:List Str); decide) rfl (.inl (iJ rfl)) (.inr (iJ rfl))) (aD (aF (i:=1) (by show List.Nodup (["burst","rate","left","come"]:List Str); decide) rfl (.inl (iJ rfl)) (.inr (iJ rfl))) bG))) (aD (aF (i:=2) (by show List.Nodup (["burst","rate","left","come"]:List Str); decide) rfl (.inl (iJ rfl)) (.inr (iJ rfl))) bG)))) (fun fp s' H'=>gF) (fun fp s' H'=>(pb (dz rfl) B.min gk (aa (pv 0) (aa (aV dR (aV bD (pv 2) (pv 1)) (pv 3)) aj))))) aj)))),?_⟩
 obtain⟨a,xs,rfl,h1,h2⟩:=bx hv
 walk_at "rd"
 have hlen:xs.length=c.length:=by rw[h2.length,bM]
 have zl:(iC c sp x).length=c.length:=by unfold iC; rw[y_]; omega
 refine ud (es:=(iC c sp x).map PyData.int) (fun i=>[some (.int (c.getD i (0,0)).1),some (.int (c.getD i (0,0)).2),some (.int (sp.getD i 0))]) (fun i=>rfl) (fun R hR=>?_) h1 hq (by rw[bM,zl,hlen]) (by rw[bM,bM,zl,hsp]) (by rw[bM,zl]; exact jt (bu (by omega))) (lO _) (fun i x y p H' hx hy s' hp R hR=>?_) (fun i e H' he s' R hR=>?_) (fun acc zs H' s' hacc hl hA=>?_)
 ·walk_at "rd"; exact hR
 ·obtain⟨b,rfl,hi,hb⟩:=uc h2 hx
  obtain⟨hi2,rfl⟩:=ints_get hy
  refine⟨p,_,rfl,cB.of hp,rfl,?_⟩
  walk_at "rd"
  refine⟨b,_,rfl,cB.of (s' _ _ hb),rfl,?_⟩
  walk_at "rd"
  exact hR
 ·obtain⟨hi,rfl⟩:=lQ he
  walk_at "cap"
  walk_at "rd"
  refine hR _ _ (aG.refl _) ?_
  rw[zl] at hi
  unfold iC
  rw[IK _ hi (by omega)]
  exact At.int _
 ·cases cu hA
  refine⟨acc,_,rfl,hl,fun l hl3=>?_⟩
  exact q l _ (s'.trans (aM hl3 _)) aC
structure Vv (r:fP):Prop where
 is:oV r
 g:r.g∈(["over","under","each"]:List Str)
theorem Wt (r:fP):uQ (qi r)=true:=rfl
theorem S5 (rs:List fP):uQ (qY rs)=true:=by
 show bN (rs.map qi)=true
 exact cX.mpr fun d hd=>by obtain⟨r,_,rfl⟩:=iK.mp hd; rfl
structure adK (rs:List fP):Prop where
 lo:1<=rs.length
 hi:rs.length<=4
 g:∀r∈rs,Vv r
structure Rb (x:dB):Prop where
 p:1<=x.p/\x.p<=1000000000000000000
 m:U12 x.m
 lo:0<=x.lo/\x.lo<=x.hi
 hi:x.hi<=12
 a:x.a<=4
 e:1<=x.e/\x.e<=6
 u:0<=x.u/\x.u<=9
 d:0<=x.d/\x.d<=9
 n:x.eN.length<=3
 r:∀rs∈x.eN,adK rs
structure PsT (x:dB):Prop where
 l:Rb x
 p:x.p<=1000000
 n:∀rs∈x.eN,∀r∈rs,r.n<=1000000000000
theorem Rb.is {x:dB} (h:Rb x):oW x:=⟨h.a,by have:=h.p; omega,by have:=h.n; omega,fun rs hrs r hr=>((h.r rs hrs).g r hr).is⟩
noncomputable def Jl:Sp:=fun vs H Q _=>∃(a:Addr) (n:Nat),vs=[.ref a]/\Tp H a n/\n<=800000000/\∀v r H',(Vv r/\r.n<=1000000000000)->At (hid a H') (qi r) v->Tp H' a (n+12)->SX a H H'->Q v H'
theorem agg.of {a:Addr} {n:Nat} {H:Hp} {Q:VK} {E:XK} (t:Tp H a n) (hn:n<=800000000) (q:∀v r H',(Vv r/\r.n<=1000000000000)->At (hid a H') (qi r) v->Tp H' a (n+12)->SX a H H'->Q v H'):Jl ([.ref a]++[]) H Q E:=⟨a,n,rfl,t,hn,q⟩
theorem Gj:bf ["_law_tape_here","_law_sign","_law_what","_law_span","_law_number","_law_step"] ["_law_tape_here"] (aK C_):=(by walk_at "c")
theorem T4 (F:jr K "_law_row" "_law_row" C_ f fd) (B:Bi mg) (bC:Ct P w K mg base k "_law_draw" ["_law_tape_here","_law_many"] pZ):bZ P w K mg base jj (k+1) f fd ["_law_tape_here"] Jl:=by
 refine F.ok Gj (by rintro vs H Q E ⟨a,n,rfl,_⟩; rfl) (fun cdv A outer s H vs Q E hr h=>?_)
 obtain⟨a,n,rfl,tp,hn,q⟩:=h
 have ND:=Gj.nd
 refine⟨_,(aq (aZ (i:=1) ND rfl (by walk_at "o") (aX aQ (bL (aa cA (aa cA (aa cA aj)))) (pf bC hr (aa (pv 0) (aa ao aj))) (fun _ _=>rfl))) (aq (aZ (i:=2) ND rfl (by walk_at "o") (aX aQ (bL (aa cA (aa cA (aa cA (aa cA aj))))) (pf bC hr (aa (pv 0) (aa ao aj))) (fun _ _=>rfl))) (aq (aZ (i:=3) ND rfl (by walk_at "o") (aX aQ (bL (aa ao (aa ao (aa ao (aa (aV bD ao (pf bC hr (aa (pv 0) (aa ao aj)))) aj))))) (pf bC hr (aa (pv 0) (aa ao aj))) (fun _ _=>rfl))) (aq (aZ (i:=4) ND rfl (by walk_at "o") (pf bC hr (aa (pv 0) (aa ao aj)))) (aq (dC (bc jg (pv 1) cA (bh _)) (aH (a_ (aY (aa (pv 2) (aa (pv 3) (aa (pv 1) (aa (pb (fX rfl) B.max iH (aa ao (aa (pv 4) aj))) (aa ao aj)))))))) bR) (aq (aZ (i:=5) ND rfl (by walk_at "o") (aV bD ao (pf bC hr (aa (pv 0) (aa ao aj))))) (aH (a_ (aY (aa (pv 2) (aa (pv 3) (aa (pv 1) (aa (pv 4) (aa (eE (bc uF (aV bD (pf bC hr (aa (pv 0) (aa ao aj))) (aV gK (pt (lV) B.int uh (aa (fK jg (pv 1) cA (bh _)) aj)) ao)) ao (bh _)) (pv 5) (aV dR ao (pv 5))) aj)))))))))))))),?_⟩
 walk_at "rd"
 refine⟨(by decide),fun p1 H1 f1 s1 e1=>?_⟩
 refine gQ.of (tp.same s1) (by omega) (by decide) (by decide) fun y1 H2 l2 u2 t2 s2=>?_
 have n1:p1≠a:=tp.ne f1
 obtain⟨g,hg,eg⟩:=Bf (ts:=["over","under","each"]) l2 u2
 refine Ix.lst (s2.get n1 e1) eg ?_
 refine⟨(by decide),fun p3 H3 f3 s3 e3=>?_⟩
 refine gQ.of (t2.same s3) (by omega) (by decide) (by decide) fun y4 H4 l4 u4 t4 s4=>?_
 have n3:p3≠a:=t2.ne f3
 obtain⟨w,hw,ew⟩:=Bf (ts:=["come","done","wait","wait"]) l4 u4
 have hw':w∈(["come","done","wait"]:List Str):=by
  simp only[bU,jH,or_false] at hw ⊢
  rcases hw with z | z | z | z
  ·exact .inl z
  ·exact .inr (.inl z)
  ·exact .inr (.inr z)
  ·exact .inr (.inr z)
 refine Ix.lst (s4.get n3 e3) ew ?_
 have sx4:SX a H H4:=(SX.of s1).trans (s2.trans ((SX.of s3).trans s4))
 have fin:∀(sp:Nat) (nn tt:Int) (H8:Hp) (m:Nat),(1<=sp/\sp<=4)->Tp H8 a m->m<=n+12->SX a H H8->(0<=nn/\nn<=1000000000000)->(g = "each" -> 1<=nn)->∀p H',H8 p=none->aG H8 H'->H' p=some (.tup [.str w,.int sp,.str g,.int nn,.int tt])->Q (.ref p) H':=fun sp nn tt H8 m hsp t8 hm s8 hnn hge p H' fp sp' ep=>by
  have pa:p≠a:=t8.ne fp
  refine q _ ⟨w,sp,g,nn,tt⟩ H' ⟨⟨⟨hw',hsp,⟨hnn.1,Int.le_trans hnn.2 (by decide)⟩,hge⟩,hg⟩,hnn.2⟩ (At.tup (by rw[cG pa]; exact ep) ?_) ((t8.same sp').mono hm) (s8.trans (SX.of sp'))
  exact ak.cons (At.str _) (ak.cons (At.int _) (ak.cons (At.str _) (ak.cons (At.int _) (ak.cons (At.int _) ak.nil))))
 try walk_at "rd"
 refine gQ.of t4 (by omega) (by decide) (by decide) fun y5 H5 l5 u5 t5 s5=>?_
 walk_at "rd"
 refine⟨(by decide),fun p6 H6 f6 s6 e6=>?_⟩
 refine gQ.of (t5.same s6) (by omega) (by decide) (by decide) fun y7 H7 l7 u7 t7 s7=>?_
 have n6:p6≠a:=t5.ne f6
 obtain⟨x,hx,ex⟩:=jB (ts:=[1,1,1,1+y5]) l7 u7
 refine Ix.lst (s7.get n6 e6) ex ?_
 have hx':1<=x/\x<=4:=by
  simp only[bU,jH,or_false] at hx
  rcases hx with rfl | rfl | rfl | rfl <;> omega
 refine gQ.of t7 (by omega) (by decide) (by decide) fun num H8 l8 u8 t8 s8=>?_
 walk_at "rd"
 obtain⟨sp,rfl⟩:∃sp:Nat,x=(sp:Int):=⟨x.toNat,by omega⟩
 have sx:SX a H H8:=sx4.trans (s5.trans ((SX.of s6).trans (s7.trans s8)))
 refine gP (fun c1=>?_) (fun c1=>?_)
 ·exact⟨(by decide),fin _ _ _ H8 _ (by omega) t8 (by omega) sx (by split <;> omega) (fun _=>by split <;> omega)⟩
 ·have c1':=yZ c1
  refine gQ.of t8 (by omega) (by decide) (by decide) fun y8 H9 l9 u9 t9 s9=>?_
  walk_at "rd"
  refine gQ.of t9 (by omega) (by decide) (by decide) fun y9 uL l10 u10 ZK nq=>?_
  walk_at "rd"
  refine⟨.inr (by decide),?_⟩
  refine gP (fun c2=>?_) (fun c2=>?_)
  ·exact⟨(by decide),fin _ _ _ uL _ (by omega) ZK (by omega) (sx.trans (s9.trans nq)) (by omega) (fun z=>absurd z c1')⟩
  ·exact⟨(by decide),fin _ _ _ uL _ (by omega) ZK (by omega) (sx.trans (s9.trans nq)) (by omega) (fun z=>absurd z c1')⟩
structure En where
 st:dX
 sp:List Int
 fr:Option (Nat×Int)
noncomputable def DQ (st:dX) (sp:List Int):PyData:=.tuple [jk st,.tuple (sp.map .int)]
noncomputable def En.key (e:En):PyData:=DQ e.st e.sp
noncomputable def frD:Option (Nat×Int)->List PyData
 | none=>[.none,.none]
 | some (p,c)=>[.int p,.int c]
noncomputable def iY (e:En):PyData:=.tuple ([jk e.st,.tuple (e.sp.map .int)]++frD e.fr)
noncomputable def en0:En:=⟨⟨0,0,[],0,0,[]⟩,[],none⟩
noncomputable def eO (es:List En) (p:Nat):En:=es.getD p en0
noncomputable def Ex (x:dB) (e:En) (c:Int):dX:=j0 x (ou x e.st c)
noncomputable def B_ (x:dB) (e:En) (c:Int):Int:=c-b_ x e.st c
noncomputable def mG (x:dB) (cv:Cv) (e:En) (p:Nat) (c:Int):En:=⟨Ex x e c,iC cv e.sp c,some (p,c)⟩
noncomputable def yO (x:dB) (cv:Cv) (e:En) (p:Nat) (es:List En) (c:Nat):List En:=if(mG x cv e p c).key∈es.map En.key then es else es++[mG x cv e p c]
noncomputable def NB (x:dB) (cv:Cv) (e:En) (p:Nat) (es:List En):Nat->List En
 | 0=>es
 | c+1=>yO x cv e p (NB x cv e p es c) c
noncomputable def qI (cv:Cv) (e:En):Nat:=(cF cv e.sp+1).toNat
noncomputable def aO (x:dB) (cv:Cv) (st:dX):Nat->List En
 | 0=>[⟨j0 x st,cv.map (·.1),none⟩]
 | p+1=>if p<(aO x cv st p).length then NB x cv (eO (aO x cv st p) p) p (aO x cv st p) (qI cv (eO (aO x cv st p) p)) else aO x cv st p
theorem fV (x:dB) (cv:Cv) (st:dX) (p:Nat):aO x cv st (p+1)=if p<(aO x cv st p).length then NB x cv (eO (aO x cv st p) p) p (aO x cv st p) (qI cv (eO (aO x cv st p) p)) else aO x cv st p:=rfl
noncomputable def bT (x:dB) (cv:Cv) (st:dX) (p c:Nat):List En:=NB x cv (eO (aO x cv st p) p) p (aO x cv st p) c
noncomputable def Et (x:dB) (bd:Option Int) (e:En) (c:Int):Bool:=match bd with
 | none=>false
 | some b=>decide ((Ex x e c).w>b) || decide (B_ x e c>0)
theorem Ou {x:dB} {cv:Cv} {e:En} {p:Nat} {es:List En} {c:Nat}:∃r,yO x cv e p es c=es++r:=by
 unfold yO
 split
 ·exact⟨[],by simp⟩
 ·exact⟨_,rfl⟩
theorem xY {x:dB} {cv:Cv} {e:En} {p:Nat} {es:List En}:∀c,∃r,NB x cv e p es c=es++r
 | 0=>⟨[],by simp[NB]⟩
 | c+1=>by
  obtain⟨r,hr⟩:=xY (x:=x) (cv:=cv) (e:=e) (p:=p) (es:=es) c
  obtain⟨r',hr'⟩:=Ou (x:=x) (cv:=cv) (e:=e) (p:=p) (es:=NB x cv e p es c) (c:=c)
  exact⟨r++r',by show yO x cv e p (NB x cv e p es c) c=_; rw[hr',hr,wR]⟩
theorem Up {x:dB} {cv:Cv} {st:dX} (p:Nat):∃r,aO x cv st (p+1)=aO x cv st p++r:=by
 rw[fV]
 split
 ·exact xY _
 ·exact⟨[],by simp⟩
theorem pF {x:dB} {cv:Cv} {st:dX} (p:Nat):∀d,∃r,aO x cv st (p+d)=aO x cv st p++r
 | 0=>⟨[],by simp⟩
 | d+1=>by
  obtain⟨r,hr⟩:=pF (x:=x) (cv:=cv) (st:=st) p d
  obtain⟨r',hr'⟩:=Up (x:=x) (cv:=cv) (st:=st) (p+d)
  exact⟨r++r',by rw[<- Gp,hr',hr,wR]⟩
theorem vp {x:dB} {cv:Cv} {st:dX} (p:Nat):1<=(aO x cv st p).length:=by
 obtain⟨r,hr⟩:=pF (x:=x) (cv:=cv) (st:=st) 0 p
 rw[GJ] at hr
 rw[hr]
 simp[aO]
theorem rM {x:dB} {cv:Cv} {st:dX} {p q:Nat} (h:p<=q):(aO x cv st p).length<=(aO x cv st q).length:=by
 obtain⟨r,hr⟩:=pF (x:=x) (cv:=cv) (st:=st) p (q-p)
 rw[show p+(q-p)=q by omega] at hr
 rw[hr,gH]; omega
theorem oA {x:dB} {cv:Cv} {st:dX} {p:Nat} (h:p<(aO x cv st p).length):aO x cv st (p+1)=bT x cv st p (qI cv (eO (aO x cv st p) p)):=by
 rw[fV,aP h]; rfl
theorem Nh {x:dB} {cv:Cv} {st:dX} {n:Nat} (h:(aO x cv st n).length=n):∀d,aO x cv st (n+d)=aO x cv st n
 | 0=>rfl
 | d+1=>by
  have ih:=Nh h d
  rw[<- Gp,fV,ih,bB (by rw[h]; omega)]
structure qH (cv:Cv) (e:En):Prop where
 st:jo e.st
 sl:e.sp.length=cv.length
 sp:∀(i:Nat) (b s:Int),(cv.map (·.1))[i]?=some b->e.sp[i]?=some s->s<=b
 nn:∀s∈e.sp,0<=s
structure Ce (cv:Cv):Prop where
 ne:cv≠[]
 n:cv.length<=10
 u:∀p∈cv,0<=p.1/\0<=p.2
theorem M9:∀(r:List Int) (b:Int),jV b r∈b::r/\∀y∈b::r,jV b r<=y
 | [],b=>⟨by simp[jV],fun y hy=>by rw[fH.mp hy]; exact pJ _⟩
 | x::r,b=>by
  have e:jV b (x::r)=jV (if x<b then x else b) r:=rfl
  rw[e]
  obtain⟨m,hm,h4,h5,h6⟩:∃m,(if x<b then x else b)=m/\m<=b/\m<=x/\(m=b\/m=x):=⟨_,rfl,by split <;> omega,by split <;> omega,by split <;> simp⟩
  rw[hm]
  obtain⟨h1,h2⟩:=M9 r m
  have h3:=h2 _ (jT)
  refine⟨?_,fun y hy=>?_⟩
  ·rcases bU.mp h1 with z | z
   ·rw[z]; rcases h6 with q | q <;> simp[q]
   ·simp[z]
  ·simp only[bU] at hy
   rcases hy with z | z | z
   ·omega
   ·omega
   ·exact h2 y (jx _ z)
theorem DG {cv:Cv} {sp:List Int} (hn:cv≠[]) (hl:sp.length=cv.length):(∃(i:Nat) (p:Int×Int) (l:Int),cv[i]?=some p/\sp[i]?=some l/\cF cv sp=p.2+l)/\∀(i:Nat) (p:Int×Int) (l:Int),cv[i]?=some p->sp[i]?=some l->cF cv sp<=p.2+l:=by
 unfold cF
 have hlen:(List.zipWith (fun(p:Int×Int) l=>p.2+l) cv sp).length=cv.length:=by rw[y_,hl,Av]
 have get:∀i:Nat,(List.zipWith (fun(p:Int×Int) l=>p.2+l) cv sp)[i]?=match cv[i]?,sp[i]? with | some p,some l=>some (p.2+l) | _,_=>none:=fun i=>by rw[Pz]; cases cv[i]? <;> cases sp[i]? <;> rfl
 generalize List.zipWith (fun(p:Int×Int) l=>p.2+l) cv sp=zs at hlen get
 match zs,hlen with
 | [],hlen=>exact absurd (Td.mp hlen.symm) hn
 | b::r,_=>
  obtain⟨h1,h2⟩:=M9 r b
  refine⟨?_,fun i p l e1 e2=>h2 _ (je (i:=i) (by rw[get,e1,e2]))⟩
  obtain⟨i,hi⟩:=Gw.mp h1
  rw[get] at hi
  cases e1:cv[i]? with
  | none=>rw[e1] at hi; cases hi
  | some p=>
   cases e2:sp[i]? with
   | none=>rw[e1,e2] at hi; cases hi
   | some l=>rw[e1,e2] at hi; exact⟨i,p,l,e1,e2,(Option.some.inj hi).symm⟩
theorem M7 {cv:Cv} {sp:List Int} (h:Ce cv) (hl:sp.length=cv.length) (hs:∀s∈sp,0<=s):0<=cF cv sp:=by
 obtain⟨⟨i,p,l,e1,e2,e⟩,_⟩:=DG h.ne hl
 have:=h.u p (je e1)
 have:=hs l (je e2)
 omega
theorem Xo {cv:Cv} {sp:List Int} {c:Int} (h:Ce cv) (hl:sp.length=cv.length) (hc:c<=cF cv sp):∀s∈iC cv sp c,0<=s:=fun s hs=>by
 obtain⟨i,hi⟩:=Gw.mp hs
 unfold iC at hi
 rw[Pz] at hi
 cases e1:cv[i]? with
 | none=>rw[e1] at hi; cases hi
 | some p=>
  cases e2:sp[i]? with
  | none=>rw[e1,e2] at hi; cases hi
  | some l=>
   rw[e1,e2] at hi
   cases hi
   have:=(DG h.ne hl).2 i p l e1 e2
   have:=h.u p (je e1)
   show 0<=(if l+p.2-c<p.1 then l+p.2-c else p.1)
   split <;> omega
theorem Uo {cv:Cv} {sp:List Int} {c:Int} (h:sp.length=cv.length):(iC cv sp c).length=cv.length:=by
 unfold iC
 rw[y_,h,Av]
theorem Xp {cv:Cv} {sp:List Int} {c:Int} {i:Nat} {b s:Int} (h1:(cv.map (·.1))[i]?=some b) (h2:(iC cv sp c)[i]?=some s):s<=b:=by
 unfold iC at h2
 rw[Pz] at h2
 rw[fQ] at h1
 cases e1:cv[i]? with
 | none=>rw[e1] at h1; cases h1
 | some q=>
  rw[e1] at h1 h2
  cases h1
  cases e2:sp[i]? with
  | none=>rw[e2] at h2; cases h2
  | some l=>
   rw[e2] at h2
   cases h2
   show(if l+q.2-c<q.1 then l+q.2-c else q.1)<=q.1
   split <;> omega
theorem aaA {x:dB} {cv:Cv} {e:En} {p:Nat} {c:Int} (hx:oW x) (hv:Ce cv) (h:qH cv e) (hc:c<=cF cv e.sp):qH cv (mG x cv e p c):=
 ⟨DP (Dw hx h.st),Uo h.sl,fun i b s h1 h2=>Xp h1 h2,Xo hv h.sl hc⟩
theorem X6 {x:dB} {cv:Cv} {e:En} {p:Nat} {es:List En} {c:Nat} (hx:oW x) (hv:Ce cv) (he:qH cv e) (hc:c<qI cv e) (h:∀y∈es,qH cv y):∀y∈yO x cv e p es c,qH cv y:=by
 have hc':(c:Int)<=cF cv e.sp:=by unfold qI at hc; omega
 unfold yO
 split
 ·exact h
 ·intro y hy
  rcases m_.mp hy with z | z
  ·exact h y z
  ·rw[fH.mp z]; exact aaA hx hv he hc'
theorem UG {x:dB} {cv:Cv} {e:En} {p:Nat} {es:List En} (hx:oW x) (hv:Ce cv) (he:qH cv e) (h:∀y∈es,qH cv y):∀c,c<=qI cv e->∀y∈NB x cv e p es c,qH cv y
 | 0,_=>h
 | c+1,hc=>X6 hx hv he hc (UG hx hv he h c (by omega))
theorem j8 {es:List En} {p:Nat} (h:p<es.length):eO es p∈es/\es[p]?=some (eO es p):=by
 have e:es[p]?=some (eO es p):=by unfold eO; rw[gC,fD h]; rfl
 exact⟨je e,e⟩
theorem mJ {x:dB} {cv:Cv} {st:dX} (hx:oW x) (hv:Ce cv) (hs:jo st):∀p,∀y∈aO x cv st p,qH cv y
 | 0=>fun y hy=>by
  rw[fH.mp hy]
  exact⟨DP hs,by rw[bM],fun i b s h1 h2=>by
   have h2:(cv.map (·.1))[i]?=some s:=h2
   rw[h1] at h2; cases h2; exact pJ _,fun s hs'=>by
   obtain⟨p,hp,rfl⟩:=iK.mp (show s∈cv.map (·.1) from hs')
   exact(hv.u p hp).1⟩
 | p+1=>by
  have ih:=mJ (cv:=cv) hx hv hs p
  rw[fV]
  split
  ·rename_i h
   exact UG hx hv (ih _ (j8 h).1) ih _ (bI _)
  ·exact ih
theorem Bl:∀{l l':List Int} {b b':Int},b<=b'->l.length=l'.length->(∀(i:Nat) (x y:Int),l[i]?=some x->l'[i]?=some y->x<=y)->jV b l<=jV b' l'
 | [],[],b,b',h,_,_=>h
 | [],_::_,_,_,_,h,_=>by simp at h
 | _::_,[],_,_,_,h,_=>by simp at h
 | x::l,y::l',b,b',h,hl,ha=>by
  have h0:=ha 0 x y rfl rfl
  show jV (if x<b then x else b) l<=jV (if y<b' then y else b') l'
  refine Bl ?_ (by simpa using hl) fun i x' y' h1 h2=>ha (i+1) x' y' h1 h2
  split <;> split <;> omega
theorem Xe {cv:Cv} {sp:List Int} (hl:sp.length=cv.length) (h:∀(i:Nat) (b s:Int),(cv.map (·.1))[i]?=some b->sp[i]?=some s->s<=b):cF cv sp<=cF cv (cv.map (·.1)):=by
 unfold cF
 have key:∀(i:Nat) (x y:Int),(List.zipWith (fun(p:Int×Int) l=>p.2+l) cv sp)[i]?=some x->(List.zipWith (fun(p:Int×Int) l=>p.2+l) cv (cv.map (·.1)))[i]?=some y->x<=y:=fun i x y h1 h2=>by
  rw[Pz] at h1 h2
  cases e1:cv[i]? with
  | none=>rw[e1] at h1; cases h1
  | some q=>
   have e2:(cv.map (·.1))[i]?=some q.1:=by rw[fQ,e1]; rfl
   rw[e1,e2] at h2
   rw[e1] at h1
   cases e3:sp[i]? with
   | none=>rw[e3] at h1; cases h1
   | some l=>
    rw[e3] at h1
    cases h1; cases h2
    have:=h i q.1 l e2 e3
    show q.2+l<=q.2+q.1
    omega
 have l1:(List.zipWith (fun(p:Int×Int) l=>p.2+l) cv sp).length=cv.length:=by rw[y_,hl,Av]
 have l2:(List.zipWith (fun(p:Int×Int) l=>p.2+l) cv (cv.map (·.1))).length=cv.length:=by rw[y_,bM,Av]
 generalize List.zipWith (fun(p:Int×Int) l=>p.2+l) cv sp=a at key l1
 generalize List.zipWith (fun(p:Int×Int) l=>p.2+l) cv (cv.map (·.1))=b at key l2
 match a,b,l1,l2 with
 | [],[],_,_=>exact pJ _
 | [],_::_,l1,l2=>rw[<- l1] at l2; simp at l2
 | _::_,[],l1,l2=>rw[<- l1] at l2; simp at l2
 | x::a,y::b,l1,l2=>
  exact Bl (key 0 x y rfl rfl) (by simp at l1 l2; omega) fun i x' y' h1 h2=>key (i+1) x' y' h1 h2
theorem Vi {cv:Cv} {e:En} (h:qH cv e) (hw:cF cv (cv.map (·.1))<=23):qI cv e<=24:=by
 have:=Xe h.sl h.sp
 unfold qI
 omega
theorem xT (st:dX) (sp:List Int):pX (DQ st sp):=by
 have hi:∀l:List Int,gf (l.map .int)=true:=fun l=>xJ.mpr fun d hd=>by obtain⟨x,_,rfl⟩:=iK.mp hd; rfl
 have ht:gf (st.us.map dw)=true:=xJ.mpr fun d hd=>by
  obtain⟨u,_,rfl⟩:=iK.mp hd
  exact hi u
 refine⟨⟨_,rfl⟩,?_,?_⟩
 ·show gf _=true
  simp only[gf,ql,jk,hi,ht,Bool.and_self]
 ·have di:∀l:List Int,PyData.depthAll (l.map .int)<=0:=fun l=>by
   induction l with
   | nil=>exact bI _
   | cons x l ih=>show max 0 (PyData.depthAll (l.map .int))<=0; omega
  have dt:PyData.depthAll (st.us.map dw)<=1:=by
   generalize st.us=us
   induction us with
   | nil=>exact e_ _
   | cons u us ih=>
    have:=di u
    show max (PyData.depthAll (u.map .int)+1) (PyData.depthAll (us.map dw))<=1
    omega
  have d1:=di st.cs
  have d2:=di sp
  unfold DQ jk
  simp only[PyData.depth,PyData.depthAll]
  omega
noncomputable def pW (x:dB) (cv:Cv) (st:dX) (bd:Option Int) (p c:Nat):Prop:=∀p' c':Nat,(p'<p\/p'=p/\c'<c)->p'<(aO x cv st p').length->c'<qI cv (eO (aO x cv st p') p')->Et x bd (eO (aO x cv st p') p') c'=false
structure fJ (x:dB) (cv:Cv) (st:dX) (bd:Option Int) (lim:Int) (n:Nat):Prop where
 hn:(aO x cv st n).length=n
 hb:pW x cv st bd n 0
 hl:n=1\/(n:Int)<=lim
structure lY (x:dB) (cv:Cv) (st:dX) (bd:Option Int) (lim:Int) (p c:Nat):Prop where
 hp:p<(aO x cv st p).length
 hc:c<qI cv (eO (aO x cv st p) p)
 hb:pW x cv st bd p c
 hk:Et x bd (eO (aO x cv st p) p) c=true
 hl:(bT x cv st p c).length=1\/((bT x cv st p c).length:Int)<=lim
structure lD (x:dB) (cv:Cv) (st:dX) (bd:Option Int) (lim:Int) (p c:Nat):Prop where
 hp:p<(aO x cv st p).length
 hc:c<qI cv (eO (aO x cv st p) p)
 hb:pW x cv st bd p (c+1)
 hk:(mG x cv (eO (aO x cv st p) p) p c).key∉(bT x cv st p c).map En.key
 hl:lim<=(bT x cv st p c).length
noncomputable def c7 (es:List En):Nat->Nat->List Int
 | 0,_=>[]
 | fuel+1,p=>match (eO es p).fr with
  | none=>[]
  | some (q,c)=>c7 es fuel q++[c]
theorem su {es r:List En} {p:Nat} (h:p<es.length):eO (es++r) p=eO es p:=by
 unfold eO
 rw[gC,gC,Gy h]
theorem Ey {x:dB} {cv:Cv} {st:dX} {p c:Nat} (h:p<(aO x cv st p).length):eO (bT x cv st p c) p=eO (aO x cv st p) p:=by
 obtain⟨r,hr⟩:=xY (x:=x) (cv:=cv) (e:=eO (aO x cv st p) p) (p:=p) (es:=aO x cv st p) c
 unfold bT
 rw[hr,su h]
theorem oZ {x:dB} {cv:Cv} {st:dX} {p c:Nat}:(aO x cv st p).length<=(bT x cv st p c).length:=by
 obtain⟨r,hr⟩:=xY (x:=x) (cv:=cv) (e:=eO (aO x cv st p) p) (p:=p) (es:=aO x cv st p) c
 unfold bT
 rw[hr,gH]; omega
theorem jL {x:dB} {cv:Cv} {st:dX} {p c:Nat}:bT x cv st p (c+1)=if(mG x cv (eO (aO x cv st p) p) p c).key∈(bT x cv st p c).map En.key then bT x cv st p c else bT x cv st p c++[mG x cv (eO (aO x cv st p) p) p c]:=rfl
noncomputable def uY (es:List En):Prop:=∀(i q:Nat) (c:Int),i<es.length->(eO es i).fr=some (q,c)->q<i
theorem uY.snoc {es:List En} {e:En} (h:uY es) (he:∀q c,e.fr=some (q,c)->q<es.length):uY (es++[e]):=fun i q c hi hf=>by
 by_cases z:i<es.length
 ·rw[su z] at hf; exact h i q c z hf
 ·have:i=es.length:=by rw[gH] at hi; simp at hi; omega
  subst this
  have ee:eO (es++[e]) es.length=e:=by unfold eO; rw[gC,zj (bI _),yW]; rfl
  rw[ee] at hf
  exact he q c hf
theorem Uz {x:dB} {cv:Cv} {e:En} {p:Nat} {es:List En} (hp:p<es.length) (h:uY es):∀c,uY (NB x cv e p es c)
 | 0=>h
 | c+1=>by
  have ih:=Uz (x:=x) (cv:=cv) (e:=e) hp h c
  show uY (yO x cv e p (NB x cv e p es c) c)
  unfold yO
  split
  ·exact ih
  ·refine ih.snoc fun q c' hf=>?_
   cases hf
   obtain⟨r,hr⟩:=xY (x:=x) (cv:=cv) (e:=e) (p:=p) (es:=es) c
   rw[hr,gH]; omega
theorem tX {x:dB} {cv:Cv} {st:dX}:∀p,uY (aO x cv st p)
 | 0=>fun i q c hi hf=>by
  have:i=0:=by simp[aO] at hi; exact hi
  subst this
  cases hf
 | p+1=>by
  rw[fV]
  split
  ·rename_i h
   exact Uz h (tX p) _
  ·exact tX p
theorem xj {x:dB} {cv:Cv} {st:dX} {p c:Nat} (h:p<(aO x cv st p).length):uY (bT x cv st p c):=Uz h (tX p) c
structure ZL (K:PySem.W.Frag) (mg:Str->Option Value) (aJ aL:Addr):Prop where
 EY:mg "TooMany" = some (.ref aJ)
 Ez:mg "TooWide" = some (.ref aL)
 JX:PySem.W.excIn K aJ Zy "ValueError.__new__" = true
 JW:PySem.W.excIn K aL Zy "ValueError.__new__" = true
 aa6:PySem.W.exmOne K (.ref aJ) (.ref aJ)=some true
 aa5:PySem.W.exmOne K (.ref aL) (.ref aL)=some true
variable {aJ aL:Addr}
noncomputable def R8:Sp:=fun vs H Q _=>∃(v:V) (c:Cv),vs=[v]/\At H (Fo c) v/\c≠[]/\c.length<=100/\∀H',aG H H'->Q (.bl (decide (cF c (c.map (·.1))>23))) H'
theorem nO:bf ["curve"] ["curve"] (aK kE):=(by walk_at "c")
theorem xF (F:jr K "is_too_wide" "is_too_wide" kE f fd) (O:Co K mg) (gY:Ct P w K mg base k "most_next" ["curve","spare"] Jm) (gZ:Ct P w K mg base k "bursts_of" ["curve"] vR):bZ P w K mg base jj (k+1) f fd ["curve"] R8:=by
 refine F.ok nO (by rintro vs H Q E ⟨v,c,rfl,_⟩; rfl) (fun cdv A outer s H vs Q E hr h=>?_)
 obtain⟨v,c,rfl,a1,hc,hl,q⟩:=h
 have ND:=nO.nd
 refine⟨_,(aH (a_ (fK jZ (pf gY hr (aa (pv 0) (aa (pf gZ hr (aa (pv 0) aj)) aj))) (JH O.Cd) (bh _)))),?_⟩
 walk_at "rd"
 refine⟨v,c,rfl,a1,hl,fun p H1 s1 e1=>⟨v,c,p,c.map (·.1),rfl,a1.mono s1,e1,by rw[bM],hc,hl,fun H2 s2=>?_⟩⟩
 exact⟨_,_,rfl,rfl,q H2 (s1.trans s2)⟩
noncomputable def Gd:Sp:=fun vs H Q _=>∃(v u cv:V) (x:dB) (st:dX) (c:Cv),vs=[v,u,cv]/\At H (jn x) v/\At H (jk st) u/\At H (Fo c) cv/\Vw x/\jo st/\c.length<=100/\∀p v1 p2 H',aG H H'->At H' (jk (j0 x st)) v1->H' p2=some (.tup ((c.map (·.1)).map V.int))->H' p=some (.tup [v1,.ref p2,.non,.non])->Q (.ref p) H'
theorem nP:bf ["post","stand","curve"] ["post","stand","curve"] (aK kI):=(by walk_at "c")
theorem xG (F:jr K "first_entry" "first_entry" kI f fd) (ug:Ct P w K mg base k "lean" ["post","stand"] CQ) (gZ:Ct P w K mg base k "bursts_of" ["curve"] vR):bZ P w K mg base jj (k+1) f fd ["post","stand","curve"] Gd:=by
 refine F.ok nP (by rintro vs H Q E ⟨v,u,cv,x,st,c,rfl,_⟩; rfl) (fun cdv A outer s H vs Q E hr h=>?_)
 obtain⟨v,u,cv,x,st,c,rfl,a1,a2,a3,hn,hs,hl,q⟩:=h
 have ND:=nP.nd
 refine⟨_,(aH (a_ (aY (aa (pf ug hr (aa (pv 0) (aa (pv 1) aj))) (aa (pf gZ hr (aa (pv 2) aj)) (aa cW (aa cW aj))))))),?_⟩
 walk_at "rd"
 refine Lean.of a1 a2 hn hs fun u1 H1 s1 b1=>⟨cv,c,rfl,a3.mono s1,hl,fun p2 H2 s2 e2=>⟨(by decide),fun p3 H3 f3 s3 e3=>?_⟩⟩
 exact q p3 u1 p2 H3 (s1.trans (s2.trans s3)) (b1.mono (s2.trans s3)) (s3 _ _ e2) e3
theorem iG {H:Hp} {e:En} {v:V} (h:At H (iY e) v):∃a v1 p2 v3 v4,v=.ref a/\H a=some (.tup [v1,.ref p2,v3,v4])/\At H (jk e.st) v1/\H p2=some (.tup (e.sp.map V.int))/\(e.fr=none/\v3=.non/\v4=.non\/∃p c,e.fr=some (p,c)/\v3=.int (p:Nat)/\v4=.int c):=by
 obtain⟨st,sp,fr⟩:=e
 cases fr with
 | none=>
  obtain⟨a,xs,rfl,h1,k0⟩:=bx h
  obtain⟨v1,_,rfl,b1,k1⟩:=ak.bA k0
  obtain⟨v2,_,rfl,b2,k2⟩:=ak.bA k1
  obtain⟨p2,ys,rfl,g1,g2⟩:=bx b2
  cases cu g2
  have k2:ak H [.none,.none] _:=k2
  obtain⟨v3,_,rfl,b3,k3⟩:=ak.bA k2
  obtain⟨v4,_,rfl,b4,k4⟩:=ak.bA k3
  cases ak.nD k4
  unfold At at b3 b4
  subst b3 b4
  exact⟨a,v1,p2,_,_,rfl,h1,b1,g1,.inl ⟨rfl,rfl,rfl⟩⟩
 | some pc=>
  obtain⟨p,c⟩:=pc
  obtain⟨a,xs,rfl,h1,k0⟩:=bx h
  obtain⟨v1,_,rfl,b1,k1⟩:=ak.bA k0
  obtain⟨v2,_,rfl,b2,k2⟩:=ak.bA k1
  obtain⟨p2,ys,rfl,g1,g2⟩:=bx b2
  cases cu g2
  have k2:ak H [.int (p:Nat),.int c] _:=k2
  obtain⟨v3,_,rfl,b3,k3⟩:=ak.bA k2
  obtain⟨v4,_,rfl,b4,k4⟩:=ak.bA k3
  cases ak.nD k4
  unfold At at b3 b4
  subst b3 b4
  exact⟨a,v1,p2,_,_,rfl,h1,b1,g1,.inr ⟨p,c,rfl,rfl,rfl⟩⟩
noncomputable def Lz:Sp:=fun vs H Q _=>∃(cv v:V) (c:Cv) (e:En),vs=[cv,v]/\At H (Fo c) cv/\At H (iY e) v/\Ce c/\qH c e/\qI c e<=100/\∀p H',H p=none->aG H H'->H' p=some (.lst ((List.range (qI c e)).map fun(i:Nat)=>V.int i))->Q (.ref p) H'
theorem pP:bf ["curve","entry"] ["curve","entry"] (aK my):=(by walk_at "c")
theorem zq (F:jr K "comes_next" "comes_next" my f fd) (B:Bi mg) (gY:Ct P w K mg base k "most_next" ["curve","spare"] Jm):bZ P w K mg base jj (k+1) f fd ["curve","entry"] Lz:=by
 refine F.ok pP (by rintro vs H Q E ⟨cv,v,c,e,rfl,_⟩; rfl) (fun cdv A outer s H vs Q E hr h=>?_)
 obtain⟨cv,v,c,e,rfl,a1,a2,hv,he,hm,q⟩:=h
 have ND:=pP.nd
 refine⟨_,(aH (a_ (pt (QX hr.hd) B.list j7 (aa (pt (QT) B.range Ig (aa (aV bD (pf gY hr (aa (pv 0) (aa (aX aQ (pv 1) ao (fun _ _=>rfl)) aj))) ao) aj)) aj)))),?_⟩
 obtain⟨a,v1,p2,v3,v4,rfl,g1,g2,g3,g4⟩:=iG a2
 walk_at "rd"
 refine Ix.tup g1 (v:=.ref p2) rfl ⟨cv,c,p2,e.sp,rfl,a1,g3,he.sl,hv.ne,(by have:=hv.n; omega),fun H1 s1=>?_⟩
 have hm0:=M7 hv he.sl he.nn
 have hm':(cF c e.sp+1).toNat<=100:=hm
 refine⟨_,_,rfl,rfl,by omega,by omega,fun p3 H3 f3 s3 e3=>⟨p3,_,rfl,e3,by omega,by omega,by omega,fun l H4 f4 s4 e4=>?_⟩⟩
 have z:=s1.trans (s3.trans s4)
 exact q l H4 (aG.free (s1.trans s3) f4) z e4
noncomputable def Ln:Sp:=fun vs H Q _=>∃(v cv u:V) (x:dB) (c:Cv) (e:En) (cm:Int),vs=[v,cv,u,.int cm]/\At H (jn x) v/\At H (Fo c) cv/\At H (iY e) u/\oW x/\Vw x/\qH c e/\c.length<=100/\∀p v1 p2 H',aG H H'->At H' (jk (Ex x e cm)) v1->H' p2=some (.tup ((iC c e.sp cm).map V.int))->H' p=some (.tup [v1,.ref p2,.int (B_ x e cm)])->Q (.ref p) H'
theorem Aj:bf ["post","curve","entry","come","behind","done","away","change"] ["post","curve","entry","come"] (aK wz):=(by walk_at "c")
theorem Qj (F:jr K "led_to" "led_to" wz f fd) (ug:Ct P w K mg base k "lean" ["post","stand"] CQ) (K3:CtD P w K mg base k "beat" ["post","stand","come","free"] 12 Su) (k_:Ct P w K mg base k "spares_left" ["curve","spare","come"] Sh):bZ P w K mg base jj (k+1) f fd ["post","curve","entry","come"] Ln:=by
 refine F.ok Aj (by rintro vs H Q E ⟨v,cv,u,x,c,e,cm,rfl,_⟩; rfl) (fun cdv A outer s H vs Q E hr h=>?_)
 obtain⟨v,cv,u,x,c,e,cm,rfl,a1,a2,a3,hx,hn,he,hl,q⟩:=h
 have ND:=Aj.nd
 refine⟨_,(aq (cL (pfd K3 hr (aa (pv 0) (aa (aX aQ (pv 2) ao (fun _ _=>rfl)) (aa (pv 3) aj)))) (bH (K:=K) (n:=4) rfl rfl (aD (aF (i:=4) ND rfl (by walk_at "o")) (aD (aF (i:=5) ND rfl (by walk_at "o")) (aD (aF (i:=6) ND rfl (by walk_at "o")) (aD (aF (i:=7) ND rfl (by walk_at "o")) bG)))))) (aH (a_ (aY (aa (pf ug hr (aa (pv 0) (aa (pv 4) aj))) (aa (pf k_ hr (aa (pv 1) (aa (aX aQ (pv 2) ao (fun _ _=>rfl)) (aa (pv 3) aj)))) (aa (pv 6) aj))))))),?_⟩
 obtain⟨a,v1,p2,v3,v4,rfl,g1,g2,g3,g4⟩:=iG a3
 walk_at "rd"
 refine Ix.tup g1 (v:=v1) rfl ⟨v,v1,x,e.st,cm,12,rfl,a1,g2,hx,he.st,fun p5 u5 H5 s5 a5 e5=>⟨p5,_,rfl,cB.of e5,rfl,?_⟩⟩
 walk_at "rd"
 refine Lean.of (a1.mono s5) a5 hn (Dw hx he.st) fun u6 H6 s6 a6=>?_
 have SQ:=s5.trans s6
 refine Ix.tup (SQ _ _ g1) (v:=.ref p2) rfl ⟨cv,c,p2,e.sp,cm,rfl,a2.mono SQ,SQ _ _ g3,he.sl,hl,fun p7 H7 s7 e7=>⟨(by decide),fun p8 H8 f8 s8 e8=>?_⟩⟩
 exact q p8 u6 p7 H8 (SQ.trans (s7.trans s8)) (a6.mono (s7.trans s8)) (s8 _ _ e7) e8
noncomputable def Gf:Sp:=fun vs H Q _=>∃(b:Int) (v:V) (aw:Int) (st:dX),vs=[.int b,v,.int aw]/\At H (jk st) v/\∀H',aG H H'->Q (.bl (decide (st.w>b) || decide (aw>0))) H'
theorem Aq:bf ["bound","behind","away"] ["bound","behind","away"] (aK wH):=(by walk_at "c")
theorem Qp (F:jr K "breaks" "breaks" wH f fd):bZ P w K mg base jj (k+1) f fd ["bound","behind","away"] Gf:=by
 refine F.ok Aq (by rintro vs H Q E ⟨b,v,aw,st,rfl,_⟩; rfl) (fun cdv A outer s H vs Q E hr h=>?_)
 obtain⟨b,v,aw,st,rfl,a1,q⟩:=h
 have ND:=Aq.nd
 refine⟨_,(aH (a_ (acT (fK jZ (aX aQ (pv 1) ao (fun _ _=>rfl)) (pv 0) (bh _)) (Dl (fK jZ (pv 2) ao (bh _)))))),?_⟩
 obtain⟨sa,sb,sc,rfl,g1,g2,g3⟩:=fC a1
 walk_at "rd"
 refine Ix.tup g1 (v:=.int st.w) rfl ⟨_,_,rfl,rfl,?_⟩
 have q1:Q (.bl (decide (b<st.w) || decide (0<aw))) H:=q H (aG.refl H)
 cases e1:decide (b<st.w) with
 | true=>rw[e1] at q1; rw[aP rfl]; exact q1
 | false=>rw[e1] at q1; rw[bB (by decide)]; exact q1
noncomputable def Sg (C:Addr):Sp:=fun vs H Q E=>∃(l:Addr) (ys:List V) (lim:Int),vs=[.ref l,.int lim]/\H l=some (.lst ys)/\0<=lim/\lim<=1000/\((ys.length:Int)<lim->∀H',aG H H'->Q .non H')/\(lim<=(ys.length:Int)->∀H',aG H H'->E (.ref C) none H')
theorem pQ:bf ["entries","limit"] ["entries","limit"] (aK mz):=(by walk_at "c")
theorem zr (F:jr K "check_room" "check_room" mz f fd) (B:Bi mg) (Z:ZL K mg aJ aL):bZ P w K mg base (nu P w) (k+1) f fd ["entries","limit"] (Sg aJ):=by
 refine F.okE pQ (by rintro vs H Q E ⟨l,ys,lim,rfl,_⟩; rfl) (fun cdv A outer s H vs Q E QG hr h=>?_)
 obtain⟨l,ys,lim,rfl,hl,h1,h2,q1,q2⟩:=h
 have ND:=pQ.nd
 refine⟨_,(aH (dC (bc M4 (pb (fY (K:=K) rfl) B.len mY (aa (pv 0) aj)) (pv 1) (bh _)) (aH (Hg ⟨Z.EY,Z.JX⟩ QG (aa (YQ (oX cA (oX (YS (pv 1)) (oX cA Tv)))) aj))) bR)),?_⟩
 walk_at "rd"
 refine⟨l,ys,rfl,.inl (dh.of hl),⟨_,_,rfl,rfl,?_⟩⟩
 by_cases c1:lim<=(ys.length:Int)
 ·rw[aP (h_ c1)]
  have hd:=Vb (n:=lim) (k:=4) (by decide) (by omega)
  have l1:(Str.ofString "more than ").length=10:=rfl
  have l2:(Str.ofString " entries").length=8:=rfl
  have l0:Str.empty.length=0:=rfl
  have e3:(Str.empty++Str.ofString "more than " ++ tx (dg lim)++Str.ofString " entries").length<=sizeLine:=by
   simp only[Str.length_append,sO,l0,l1,l2,sizeLine_eq]; omega
  refine⟨_,rfl,?_,_,U7 (by omega) (by omega),?_,_,rfl,?_,_,rfl,e3,e3,by decide,fun H' s'=>q2 c1 H' s'⟩
  ·simp only[Str.length_append,l0,l1,sizeLine_eq]; omega
  ·rw[sO,sizeLine_eq]; omega
  ·simp only[Str.length_append,sO,l0,l1,sizeLine_eq]; omega
 ·rw[bB (by simpa using c1)]
  exact q1 (by omega) H (aG.refl H)
theorem jy {H:Hp} {es:List En} {ys:List V} (h:ak H (es.map iY) ys) {p:Nat} (hp:p<es.length):∃y,ys[p]?=some y/\At H (iY (eO es p)) y:=by
 have hl:ys.length=es.length:=by rw[h.length,bM]
 have hy:ys[p]?=some (ys[p]'(by omega)):=fD (by omega)
 obtain⟨d,e1,e2⟩:=h.get hy
 rw[fQ,(j8 hp).2] at e1
 cases e1
 exact⟨_,hy,e2⟩
theorem yh (e:En):uQ (iY e)=true:=by
 have h1:=CN e.st
 have h2:=oG e.sp
 unfold iY frD
 cases e.fr <;> simp[uQ,bN,h1,h2]
theorem lR (es:List En):bN (es.map iY)=true:=cX.mpr fun d hd=>by obtain⟨e,_,rfl⟩:=iK.mp hd; exact yh e
noncomputable def FrV (fr:Option (Nat×Int)) (v3 v4:V):Prop:=fr=none/\v3=.non/\v4=.non\/∃p c,fr=some (p,c)/\v3=.int (p:Nat)/\v4=.int c
theorem tU {es:List En} (hq:∀(i q:Nat) (c:Int),i<es.length->(eO es i).fr=some (q,c)->q<i):∀(i f g:Nat),i<es.length->i<f->i<g->c7 es f i=c7 es g i:=by
 intro i
 induction i using Nat.strongRecOn with
 | _ i ih=>
  intro f g hi hf hg
  obtain⟨f',rfl⟩:∃f',f=f'+1:=⟨f-1,by omega⟩
  obtain⟨g',rfl⟩:∃g',g=g'+1:=⟨g-1,by omega⟩
  unfold c7
  cases e:(eO es i).fr with
  | none=>rfl
  | some pc=>
   obtain⟨q,c⟩:=pc
   have hlt:=hq i q c hi e
   dsimp only
   rw[ih q hlt f' g' (by omega) (by omega) (by omega)]
noncomputable def vQ:Sp:=fun vs H Q _=>∃(l:Addr) (ys:List V) (es:List En) (p:Nat),vs=[.ref l,.int p]/\H l=some (.lst ys)/\ak H (es.map iY) ys/\p<es.length/\es.length<=1000/\(∀(i q:Nat) (c:Int),i<es.length->(eO es i).fr=some (q,c)->q<i)/\∀r H',H r=none->aG H H'->H' r=some (.lst ((c7 es es.length p).map V.int))->Q (.ref r) H'
theorem vW:bf ["entries","place","load","came_from","come"] ["entries","place"] (aK sZ):=(by walk_at "c")
theorem JP (F:jr K "load_to" "load_to" sZ f fd):bZ P w K mg base jj (k+1) f fd ["entries","place"] vQ:=by
 refine F.ok vW (by rintro vs H Q E ⟨l,ys,es,p,rfl,_⟩; rfl) (fun cdv A outer s H vs Q E hr h=>?_)
 obtain⟨l,ys,es,p,rfl,hl,ha,hp,hn,hq,q⟩:=h
 have ND:=vW.nd
 refine⟨_,(aq (aZ (i:=2) ND rfl (by walk_at "o") (bL aj)) (aq (cL (cZ gB (aX aQ (pv 0) (pv 1) (fun _ _=>rfl)) (du ao) eX) (bH (K:=K) (n:=2) rfl rfl (aD (aF (i:=3) ND rfl (by walk_at "o")) (aD (aF (i:=4) ND rfl (by walk_at "o")) bG)))) (aq (wZ PassesOwn.never (bc o_ (pv 4) cW (bh _)) (aq (iw (gJ (K:=K) rfl PySem.F.plainAttrs_list PySem.F.slot_list_append PySem.F.type_list_append fG (pv 2) (aa (pv 4) aj))) (aH (cL (cZ gB (aX aQ (pv 0) (pv 3) (fun _ _=>rfl)) (du ao) eX) (bH (K:=K) (n:=2) rfl rfl (aD (aF (i:=3) ND rfl (by walk_at "o")) (aD (aF (i:=4) ND rfl (by walk_at "o")) bG))))))) (aH (a_ (MJ (K:=K) rfl (pv 2) (du (Hk vK ao)))))))),?_⟩
 walk_at "rd"
 refine⟨e_ _,fun r H1 f1 s1 e1=>?_⟩
 obtain⟨y,y1,y2⟩:=jy ha hp
 obtain⟨ea,v1,p2,v3,v4,rfl,g1,_,_,g4⟩:=iG y2
 refine Ix.lst (s1 _ _ hl) (bz y1) ⟨ea,_,rfl,s1 _ _ g1,fun p3 H3 s3 e3=>?_⟩
 rw[oM (by decide)] at e3
 have e3:H3 p3=some (.tup [v3,v4]):=e3
 refine⟨p3,_,rfl,cB.of e3,rfl,?_⟩
 walk_at "rd"
 have rl:r≠l:=fun z=>by rw[z,hl] at f1; cases f1
 have fuel:=tU hq
 refine⟨fun m σ H'=>∃(i:Nat) (acc:List Int) (w3 w4:V),σ=[some (.ref l),some (.int p),some (.ref r),some w3,some w4]/\i<es.length/\m=i+(if(eO es i).fr=none then 0 else 1)/\FrV (eO es i).fr w3 w4/\c7 es es.length p=c7 es es.length i++acc.reverse/\acc.length+i<=es.length/\H' r=some (.lst (acc.map V.int))/\aG H H',⟨_,p,[],v3,v4,rfl,hp,rfl,g4,by simp,by simp; omega,s3 _ _ e1,s1.trans s3⟩,?_⟩
 rintro m σ H4 ⟨i,acc,w3,w4,rfl,hi,hm,hf,hpa,hal,e4,s4⟩
 walk_at "rd"
 refine⟨trivial,?_⟩
 rcases hf with⟨z1,rfl,rfl⟩ | ⟨q',c,z1,rfl,rfl⟩
 ·rw[bB (by decide)]
  have ep:c7 es es.length i=[]:=by
   obtain⟨f',hf'⟩:∃f',es.length=f'+1:=⟨es.length-1,by omega⟩
   rw[hf']
   unfold c7
   rw[z1]
  rw[ep,Az] at hpa
  unfold RQ
  walk_at "rd"
  refine⟨trivial,r,_,rfl,dh.of e4,fun p5 f5=>?_⟩
  refine q p5 _ (aG.free s4 f5) (s4.trans (aM f5 _)) ?_
  rw[aC,hpa,List.map_reverse]
 ·rw[aP (by simp)]
  have hlt:=hq i q' c hi z1
  refine⟨_,fun σ' H' z=>z,.inl ⟨rfl,_,dh.of e4⟩,r,_,_,rfl,rfl,e4,by rw[bM]; exact bu (by omega),?_⟩
  have s5:aG H (upd H4 r (.lst (acc.map V.int++[V.int c]))):=s4.eZ (by exact f1)
  have e5:upd H4 r (.lst (acc.map V.int++[V.int c])) r=some (.lst ((acc++[c]).map V.int)):=by rw[aC,iu]; rfl
  generalize upd H4 r (.lst (acc.map V.int++[V.int c]))=H5 at s5 e5
  obtain⟨y',y1',Ym⟩:=jy ha (show q'<es.length by omega)
  obtain⟨ea',v1',p2',v3',v4',rfl,g1',_,_,g4'⟩:=iG Ym
  refine Ix.lst (s5 _ _ hl) (bz y1') ⟨ea',_,rfl,s5 _ _ g1',fun p6 H6 s6 e6=>?_⟩
  rw[oM (by decide)] at e6
  have e6:H6 p6=some (.tup [v3',v4']):=e6
  refine⟨p6,_,rfl,cB.of e6,rfl,?_⟩
  walk_at "rd"
  have ep:c7 es es.length i=c7 es es.length q'++[c]:=by
   obtain⟨f',hf'⟩:∃f',es.length=f'+1:=⟨es.length-1,by omega⟩
   rw[fuel q' es.length f' (by omega) (by omega) (by omega),hf']
   conv=>lhs; unfold c7
   rw[z1]
  refine⟨_,?_,q',acc++[c],v3',v4',rfl,by omega,rfl,g4',?_,by rw[gH]; simp; omega,s6 _ _ e5,s5.trans s6⟩
  ·have hm':m=i+1:=by rw[hm,z1]; rfl
   split <;> omega
  ·rw[hpa,ep,List.reverse_append,wR]; rfl
variable {aJ aL:Addr}
theorem Dg.of {H:Hp} {l b:Addr} {xs zs:List V} {Q:VK} (h1:H l=some (.lst xs)) (h2:H b=some (.lst zs)) (hn:xs.length+zs.length<=sizeLine) (q:∀p H',H p=none->aG H H'->H' p=some (.lst (xs++zs))->Q (.ref p) H'):Dg (.ref l) (.ref b) H Q:=
 ⟨l,b,xs,zs,rfl,rfl,h1,h2,hn,fun p fp=>q p _ fp (aM fp _) aC⟩
theorem Um {xs ys:List V} (h:xs.length+ys.length<=1000):xs.length+ys.length<=sizeLine:=jt (bu h)
theorem oh {es:List En} (hq:uY es):∀(f i:Nat),(c7 es f i).length<=f
 | 0,_=>bI _
 | f+1,i=>by
  unfold c7
  split
  ·exact e_ _
  ·rw[gH]
   have:=oh hq f
   rename_i q c _
   have:=this q
   simp
   omega
noncomputable def Ol:Option Int->V
 | none=>.non
 | some b=>.int b
noncomputable def Ze (H H':Hp) (es:List En) (w:V) (v:V):Prop:=∃p l ys,v=.ref p/\H' p=some (.tup [.ref l,w])/\H l=none/\H' l=some (.lst ys)/\ak H' (es.map iY) ys
noncomputable def vO (CM CW:Addr):Sp:=fun vs H Q E=>∃(v u cv:V) (x:dB) (st:dX) (c:Cv) (bd:Option Int) (lim:Int),vs=[v,u,cv,Ol bd,.int lim]/\At H (jn x) v/\At H (jk st) u/\At H (Fo c) cv/\oW x/\Vw x/\jo st/\Ce c/\0<=lim/\lim<=900 /\
 (23<cF c (c.map (·.1))->∀H',aG H H'->E (.ref CW) none H') /\
 (cF c (c.map (·.1))<=23->∀n,fJ x c st bd lim n->∀v' H',aG H H'->Ze H H' (aO x c st n) .non v'->Q v' H') /\
 (cF c (c.map (·.1))<=23->∀p cc,lY x c st bd lim p cc->∀v' r H',aG H H'->H r=none->H' r=some (.lst ((c7 (bT x c st p cc) (bT x c st p cc).length p++[(cc:Int)]).map V.int))->Ze H H' (bT x c st p cc) (.ref r) v'->Q v' H') /\
 (cF c (c.map (·.1))<=23->∀p cc,lD x c st bd lim p cc->∀H',aG H H'->E (.ref CM) none H')
theorem Ag:bf ["post","stand","curve","bound","limit","entries","met","place","come","behind","spare","away"] ["post","stand","curve","bound","limit"] (aK wg):=(by walk_at "c")
theorem Qg (F:jr K "walked" "walked" wg f fd) (B:Bi mg) (O:Co K mg) (Z:ZL K mg aJ aL) (lA:Ct P w K mg base k "is_too_wide" ["curve"] R8) (lB:Ct P w K mg base k "first_entry" ["post","stand","curve"] Gd) (mV:Ct P w K mg base k "comes_next" ["curve","entry"] Lz)
  (yH:Ct P w K mg base k "led_to" ["post","curve","entry","come"] Ln) (yL:Ct P w K mg base k "breaks" ["bound","behind","away"] Gf) (mX:Vz P w K mg base k "check_room" ["entries","limit"] (Sg aJ)) (jC:Ct P w K mg base k "load_to" ["entries","place"] vQ) :
  bZ P w K mg base (nu P w) (k+1) f fd ["post","stand","curve","bound","limit"] (vO aJ aL):=by
 refine F.okE Ag (by rintro vs H Q E ⟨v,u,cv,x,st,c,bd,lim,rfl,_⟩; rfl) (fun cdv A outer s H vs Q E QG hr h=>?_)
 obtain⟨v,u,cv,x,st,c,bd,lim,rfl,a1,a2,a3,hx,hn,hs,hv,hl1,hl2,qW,qD,qB,qM⟩:=h
 have ND:=Ag.nd
 refine⟨_,(aq (dC (mC (pf lA hr (aa (pv 2) aj))) (aH (Hg ⟨Z.Ez,Z.JW⟩ QG (aa (YQ (oX cA (oX (YS (JH O.Cd)) (oX cA Tv)))) aj))) bR) (aq (aZ (i:=5) ND rfl (by walk_at "o") (bL (aa (pf lB hr (aa (pv 0) (aa (pv 1) (aa (pv 2) aj)))) aj))) (aq (aZ (i:=6) ND rfl (by walk_at "o") (JK QV (by rfl) B.set aa_)) (aq (iw (MK hr.units (pv 6) (aa (cZ gB (aX aQ (pv 5) ao (fun _ _=>rfl)) eX (du ao)) aj))) (aq (aZ (i:=7) ND rfl (by walk_at "o") ao) (aq (wZ PassesOwn.leaving (bc uF (pv 7) (pb (fY (K:=K) rfl) B.len mY (aa (pv 5) aj)) (bh _)) (aq (gb PassesOwn.leaving rfl (jK (K:=K) rfl (pf mV hr (aa (pv 2) (aa (aX aQ (pv 5) (pv 7) (fun _ _=>rfl)) aj)))) (aF (i:=8) ND rfl (by walk_at "o")) (aq (cL (pf yH hr (aa (pv 0) (aa (pv 2) (aa (aX aQ (pv 5) (pv 7) (fun _ _=>rfl)) (aa (pv 8) aj))))) (bH (K:=K) (n:=3) rfl rfl (aD (aF (i:=9) ND rfl (by walk_at "o")) (aD (aF (i:=10) ND rfl (by walk_at "o")) (aD (aF (i:=11) ND rfl (by walk_at "o")) bG))))) (aq (dC (PW.pt (wX (bc o_ (pv 3) cW (bh _)) (rC (mC (pf yL hr (aa (pv 3) (aa (pv 9) (aa (pv 11) aj)))))))) (aH (a_ (aY (aa (pv 5) (aa (aV tV (pf jC hr (aa (pv 5) (aa (pv 7) aj))) (bL (aa (pv 8) aj))) aj))))) bR) (aH (dC (bc (Qe hr.units) (aY (aa (pv 9) (aa (pv 10) aj))) (pv 6) (by with_unfolding_all rfl)) (aq (iw (pfe mX hr (aa (pv 5) (aa (pv 4) aj)))) (aq (iw (MK hr.units (pv 6) (aa (aY (aa (pv 9) (aa (pv 10) aj))) aj))) (aH (iw (gJ (K:=K) rfl PySem.F.plainAttrs_list PySem.F.slot_list_append PySem.F.type_list_append fG (pv 5) (aa (aY (aa (pv 9) (aa (pv 10) (aa (pv 7) (aa (pv 8) aj))))) aj)))))) bR))))) (aH (xf (i:=7) ND rfl (by walk_at "o") ao J5)))) (aH (a_ (aY (aa (pv 5) (aa cW aj))))))))))),?_⟩
 simp only[Gg]
 walk_at "rd"
 refine eQ.of (fun σ' H'=>cF c (c.map (·.1))<=23/\aG H H'/\σ'=[some v,some u,some cv,some (Ol bd),some (.int lim),none,none,none,none,none,none,none]) ?_ ?_
 rotate_left 1
 ·intro N pU
  walk_at "rd"
  refine⟨cv,c,rfl,a3,hv.ne,(by have:=hv.n; omega),fun H1 s1=>⟨_,rfl,?_⟩⟩
  by_cases c1:cF c (c.map (·.1))>23
  ·rw[aP (h_ c1)]
   have hd:=Vb (n:=23) (k:=4) (by decide) (by decide)
   have l1:(Str.ofString "more than ").length=10:=rfl
   have l2:(Str.ofString " units may come in a beat").length=25:=rfl
   have l0:Str.empty.length=0:=rfl
   have e3:(Str.empty++Str.ofString "more than " ++ tx (dg 23)++Str.ofString " units may come in a beat").length<=sizeLine:=by
    simp only[Str.length_append,sO,l0,l1,l2,sizeLine_eq]; omega
   refine⟨_,rfl,?_,_,U7 (by decide) (by decide),?_,_,rfl,?_,_,rfl,e3,e3,by decide,fun H' s'=>qW (by omega) H' (s1.trans s')⟩
   ·simp only[Str.length_append,l0,l1,sizeLine_eq]; omega
   ·rw[sO,sizeLine_eq]; omega
   ·simp only[Str.length_append,sO,l0,l1,sizeLine_eq]; omega
  ·rw[bB (by simpa using c1)]
   exact pU _ _ ⟨by omega,s1,rfl⟩
 rintro σ' H1 ⟨hW,s1,rfl⟩
 walk_at "rd"
 refine⟨v,u,cv,x,st,c,rfl,a1.mono s1,a2.mono s1,a3.mono s1,hn,hs,(by have:=hv.n; omega),fun pe v1 p2 H2 s2 b1 b2 b3=>⟨(by decide),fun l H3 f3 s3 e3=>⟨trivial,fun m H4 f4 s4 n4 hφ=>⟨⟨m,[],rfl,n4⟩,?_⟩⟩⟩⟩
 clear hφ
 have s34:=s3.trans s4
 have Dd:=s1.trans (s2.trans s34)
 refine Ix.lst (s4 _ _ e3) (v:=.ref pe) (bz (j:=0) rfl) ⟨pe,_,rfl,s34 _ _ b3,fun p5 H5 s5 e5=>?_⟩
 rw[kY (by decide)] at e5
 have e5:H5 p5=some (.tup [v1,.ref p2]):=e5
 have s25:=s34.trans s5
 have k5:iI H5 (DQ (j0 x st) (c.map (·.1))) (.ref p5):=⟨xT _ _,At.tup e5 (ak.cons (b1.mono s25) (ak.cons (At.tup (s25 _ _ b2) (bw _)) ak.nil))⟩
 refine⟨m,[],.ref p5,_,rfl,rfl,n4.same s5,by decide,k5,fun H6 p6=>?_⟩
 have fl:H l=none:=aG.free (s1.trans s2) f3
 have fm:H m=none:=aG.free (s1.trans (s2.trans s3)) f4
 have lm:l≠m:=fun z=>by rw[z] at e3; rw[e3] at f4; cases f4
 have s6:aG H H6:=g8.same p6 (Dd.trans s5) fm
 have e6:H6 l=some (.lst [.ref pe]):=g8.lst (n4.same s5) p6 _ _ (s5 _ _ (s4 _ _ e3))
 have a6:ak H6 ((aO x c st 0).map iY) [.ref pe]:=by
  refine ak.cons (g8.at (n4.same s5) p6 (yh _) (At.tup (s25 _ _ b3) (ak.cons (b1.mono s25) (ak.cons (At.tup (s25 _ _ b2) (bw _)) (ak.cons At.non (ak.cons At.non ak.nil)))))) ak.nil
 have n6:iM H6 m ((aO x c st 0).map En.key):=p6.2
 clear p6 n4 k5 e5 b1 b2 b3 e3
 obtain⟨Wh,hWh⟩:∃Wh:Nat->St->Hp->Prop,∀mm σ H',Wh mm σ H'↔(∃(p:Nat) (ys:List V) (o8 o9 Qu Qt:Option V),σ=[some v,some u,some cv,some (Ol bd),some (.int lim),some (.ref l),some (.ref m),some (.int p),o8,o9,Qu,Qt]/\mm=2000-p/\p<=(aO x c st p).length/\((aO x c st p).length=1\/((aO x c st p).length:Int)<=lim)/\pW x c st bd p 0/\H' l=some (.lst ys)/\ak H' ((aO x c st p).map iY) ys/\iM H' m ((aO x c st p).map En.key)/\aG H H'):=⟨_,fun _ _ _=>Iff.rfl⟩
 refine⟨Wh,⟨_,(hWh _ _ _).mpr ⟨0,_,_,_,_,_,rfl,rfl,e_ _,.inl rfl,fun p' c' h=>by omega,e6,a6,n6,s6⟩⟩,?_⟩
 clear e6 a6 n6 s6
 intro mm σ H7 hw7
 obtain⟨p,ys,o8,o9,Qu,Qt,rfl,hmm,hp,hlen,hnb,e7,a7,n7,s7⟩:=(hWh _ _ _).mp hw7
 walk_at "rd"
 refine⟨l,ys,rfl,.inl (dh.of e7),?_⟩
 have hyl:ys.length=(aO x c st p).length:=by rw[a7.length,bM]
 have hlim:(aO x c st p).length<=901:=by rcases hlen with z | z <;> omega
 refine⟨_,_,rfl,rfl,?_⟩
 by_cases c1:(p:Int)<ys.length
 ·rw[aP (h_ c1)]
  have hp':p<(aO x c st p).length:=by omega
  refine⟨_,fun σ' H' z=>z,?_⟩
  rw[FP]
  walk_at "rd"
  obtain⟨y,y1,y2⟩:=jy a7 hp'
  have hE:=mJ hx hv hs p _ (j8 hp').1
  have hcm:=Vi hE hW
  refine Ix.lst e7 (bz y1) ⟨cv,y,c,_,rfl,a3.mono s7,y2,hv,hE,by omega,fun lc H8 f8 s8 e8=>?_⟩
  have e8l:=s8 _ _ e7
  have lcl:lc≠l:=fun z=>by rw[z,e7] at f8; cases f8
  have flc:H lc=none:=aG.free s7 f8
  obtain⟨Pv,hPv⟩:∃Pv:Nat->St->Hp->Prop,∀i σ H',Pv i σ H'↔(∃(zs:List V) (o8 o9 Qu Qt:Option V),σ=[some v,some u,some cv,some (Ol bd),some (.int lim),some (.ref l),some (.ref m),some (.int p),o8,o9,Qu,Qt]/\((bT x c st p i).length=1\/((bT x c st p i).length:Int)<=lim)/\pW x c st bd p i/\H' l=some (.lst zs)/\ak H' ((bT x c st p i).map iY) zs/\iM H' m ((bT x c st p i).map En.key)/\H' lc=some (.lst ((List.range (qI c (eO (aO x c st p) p))).map fun i:Nat=>V.int i))/\aG H H'):=⟨_,fun _ _ _=>Iff.rfl⟩
  refine LK.of e8 Pv ((hPv _ _ _).mpr ⟨_,_,_,_,_,rfl,hlen,hnb,e8l,a7.mono s8,n7.same s8,e8,s7.trans s8⟩) (fun i σ H' _ hh=>by obtain⟨_,_,_,_,_,_,_,_,_,_,_,z,_⟩:=(hPv _ _ _).mp hh; exact z) ?_ ?_
  ·intro i w σ H9 hw hw9
   obtain⟨zs,o8,o9,Qu,Qt,rfl,hl9,hb9,e9,a9,n9,c9,s9⟩:=(hPv _ _ _).mp hw9
   have hi:i<qI c (eO (aO x c st p) p):=by
    have:=(fj.mp hw).1
    simpa using this
   have ew:w=.int (i:Nat):=by
    rw[fQ,Ms hi] at hw
    exact(Option.some.inj hw).symm
   subst ew
   have hlz:zs.length=(bT x c st p i).length:=by rw[a9.length,bM]
   have pp:p<(bT x c st p i).length:=jU hp' oZ
   have air:(bT x c st p i).length<=901:=by rcases hl9 with z | z <;> omega
   obtain⟨y',y1',Ym⟩:=jy a9 pp
   rw[Ey hp'] at Ym
   walk_at "rd"
   refine Ix.lst e9 (bz y1') ⟨v,cv,y',x,c,_,i,rfl,a1.mono s9,a3.mono s9,Ym,hx,hn,hE,(by have:=hv.n; omega),fun pt v1 p2 uL nq b1 b2 b3=>⟨pt,_,rfl,cB.of b3,rfl,?_⟩⟩
   walk_at "rd"
   have hi':=hi
   generalize Fj:eO (aO x c st p) p=e at hE hcm e8 c9 hi y2 Ym b1 b2 b3
   have aij:=s9.trans nq
   refine eQ.of (fun σ' H'=>Et x bd e i=false/\aG uL H'/\σ'=[some v,some u,some cv,some (Ol bd),some (.int lim),some (.ref l),some (.ref m),some (.int p),some (.int i),some v1,some (.ref p2),some (.int (B_ x e i))]) ?_ ?_
   rotate_left 1
   ·intro N pU
    walk_at "rd"
    refine⟨trivial,?_⟩
    cases bd with
    | none=>
     rw[bB (by decide)]
     exact pU _ _ ⟨rfl,aG.refl _,rfl⟩
    | some b=>
     rw[aP (by simp[Ol])]
     refine⟨b,v1,_,_,rfl,b1,fun sG pR=>⟨_,rfl,?_⟩⟩
     have eb:(decide ((Ex x e i).w>b) || decide (B_ x e i>0))=Et x (some b) e i:=rfl
     rw[eb]
     cases hbk:Et x (some b) e i with
     | false=>
      rw[bB (by decide)]
      exact pU _ _ ⟨hbk,pR,rfl⟩
     | true=>
      rw[aP rfl]
      have Rv:=nq.trans pR
      refine⟨l,zs,_,p,rfl,Rv _ _ e9,a9.mono Rv,pp,by omega,xj hp',fun r vG Rm s12 vA=>⟨(by decide),fun p13 Iz Za jA N7=>?_⟩⟩
      have hpl:=oh (xj (x:=x) (cv:=c) (st:=st) (c:=i) hp') (bT x c st p i).length p
      refine Dg.of (jA _ _ vA) N7 (Um (by rw[bM]; show _+1<=1000; omega)) fun p14 Ye f14 Ph Ku=>⟨(by decide),fun Ir La f15 Ma Ks=>?_⟩
      have Fg:=Rv.trans s12
      have z13:=Fg.trans jA
      have I_:=z13.trans (Ph.trans Ma)
      refine qB hW p i ⟨hp',hi',hb9,by rw[Fj]; exact hbk,hl9⟩ _ p14 La (s9.trans I_) (aG.free (s9.trans z13) f14) ?_ ⟨Ir,l,zs,rfl,Ks,fl,I_ _ _ e9,a9.mono I_⟩
      rw[iu]
      exact Ma _ _ Ku
   rintro σ' sG ⟨hbk,pR,rfl⟩
   walk_at "rd"
   have hb':pW x c st bd p (i+1):=fun p' c' h1 h2 h3=>by
    by_cases z:p'=p/\c'=i
    ·obtain⟨rfl,rfl⟩:=z
     rw[Fj]; exact hbk
    ·exact hb9 p' c' (by omega) h2 h3
   refine⟨(by decide),fun Rk vG Rm s12 vA=>?_⟩
   have Fg:=nq.trans (pR.trans s12)
   have Rv:=pR.trans s12
   have k12:iI vG (mG x c e p i).key (.ref Rk):=⟨xT _ _,At.tup vA (ak.cons (b1.mono Rv) (ak.cons (At.tup (Rv _ _ b2) (bw _)) ak.nil))⟩
   refine⟨m,_,_,rfl,n9.same Fg,k12,?_⟩
   by_cases hk:(mG x c e p i).key∈(bT x c st p i).map En.key
   ·rw[h_ hk,bB (by decide)]
    have ep:bT x c st p (i+1)=bT x c st p i:=by rw[jL,Fj,aP hk]
    refine(hPv _ _ _).mpr ?_
    rw[ep]
    exact⟨zs,_,_,_,_,rfl,hl9,hb',Fg _ _ e9,a9.mono Fg,n9.same Fg,(by rw[Fj]; exact Fg _ _ c9),s9.trans Fg⟩
   ·rw[ju hk,aP (by decide)]
    have ep:bT x c st p (i+1)=bT x c st p i++[mG x c e p i]:=by rw[jL,Fj,bB hk]
    refine⟨l,zs,lim,rfl,Fg _ _ e9,hl1,by omega,fun hroom Iz jA=>?_,fun hroom Iz jA Ye Ph=>?_⟩
    ·have z13:=Fg.trans jA
     have n13:=n9.same z13
     refine⟨⟨m,_,rfl,n13⟩,(by decide),fun p14 Ye f14 Ph Ku=>?_⟩
     have z14:=z13.trans Ph
     have V4:=Rv.trans (jA.trans Ph)
     have n14:=n9.same z14
     have k14:iI Ye (mG x c e p i).key (.ref p14):=⟨xT _ _,At.tup Ku (ak.cons (b1.mono V4) (ak.cons (At.tup (V4 _ _ b2) (bw _)) ak.nil))⟩
     refine⟨m,_,_,_,rfl,rfl,n14,by rw[bM]; omega,k14,fun La Ir=>?_⟩
     have Ks:=g8.lst n14 Ir _ _ (z14 _ _ e9)
     have c15:=g8.lst n14 Ir _ _ (z14 _ _ c9)
     have a15:ak La ((bT x c st p i).map iY) zs:=ak.tupS (g8.tup n14 Ir) _ _ (lR _) (a9.mono z14)
     have b15:At La (jk (Ex x e i)) v1:=g8.at n14 Ir (CN _) (b1.mono V4)
     have d15:=g8.tup n14 Ir _ _ (V4 _ _ b2)
     have Ma:aG H La:=g8.same Ir (s9.trans z14) fm
     have n15:=Ir.2
     refine⟨.inl ⟨rfl,_,dh.of Ks⟩,(by decide),fun Ip Ri f16 Dc QL=>⟨l,zs,_,rfl,rfl,Dc _ _ Ks,by rw[hlz]; exact bu (by omega),?_⟩⟩
     have adC:=Dc _ _ Ks
     have tk:∀b xs,Ri b=some (.tup xs)->upd Ri l (.lst (zs++[.ref Ip])) b=some (.tup xs):=fun b xs hb=>by
      rw[aR (fun z=>by rw[z,adC] at hb; cases hb)]; exact hb
     refine(hPv _ _ _).mpr ⟨zs++[.ref Ip],_,_,_,_,rfl,.inr ?_,hb',aC,?_,?_,?_,(Ma.trans Dc).eZ fl⟩
     ·rw[ep,gH]
      show((_+1:Nat):Int)<=lim
      omega
     ·rw[ep,iu]
      refine ak.tupS tk _ _ (by rw[<- List.map_singleton,<- iu]; exact lR _) ((a15.mono Dc).append (ak.cons ?_ ak.nil))
      exact At.tup QL (ak.cons (b15.mono Dc) (ak.cons (At.tup (Dc _ _ d15) (bw _)) (ak.cons (At.int _) (ak.cons (At.int _) ak.nil))))
     ·rw[ep,iu]
      exact(n15.same Dc).V9 adC
     ·rw[aR lcl,Fj]; exact Dc _ _ c15
    ·exact qM hW p i ⟨hp',hi',hb',by rw[Fj]; exact hk,by omega⟩ Ye (s9.trans (Fg.trans (Ph jA)))
  ·intro σ H9 hw9
   obtain⟨zs,o8,o9,Qu,Qt,rfl,hl9,hb9,e9,a9,n9,c9,s9⟩:=(hPv _ _ _).mp hw9
   rw[bM,Be] at hl9 hb9 a9 n9
   rw[<- oA hp'] at hl9 a9 n9
   walk_at "rd"
   refine⟨_,rfl,_,_,rfl,rfl,_,?_,(hWh _ _ _).mpr ⟨p+1,zs,_,_,_,_,rfl,rfl,?_,hl9,fun p' c' h1 h2 h3=>?_,e9,a9,n9,s9⟩⟩
   ·omega
   ·have:=rM (x:=x) (cv:=c) (st:=st) (show p<=p+1 by omega); omega
   ·by_cases z:p'=p
    ·subst z; exact hb9 _ c' (.inr ⟨rfl,h3⟩) h2 h3
    ·exact hb9 p' c' (.inl (by omega)) h2 h3
 ·rw[bB (by simpa using c1)]
  refine⟨(by decide),fun p8 H8 f8 s8 e8=>?_⟩
  have ep:(aO x c st p).length=p:=by omega
  refine qD hW p ⟨ep,hnb,by rcases hlen with z | z <;> omega⟩ _ H8 (s7.trans s8) ⟨p8,l,ys,rfl,e8,fl,s8 _ _ e7,a7.mono s8⟩
variable {aJ aL:Addr}
noncomputable def YC (CM CW:Addr):Sp:=fun vs H Q E=>∃(v u cv:V) (x:dB) (st:dX) (c:Cv) (lim:Int),vs=[v,u,cv,.int lim]/\At H (jn x) v/\At H (jk st) u/\At H (Fo c) cv/\oW x/\Vw x/\jo st/\Ce c/\0<=lim/\lim<=900 /\
 (23<cF c (c.map (·.1))->∀H',aG H H'->E (.ref CW) none H') /\
 (cF c (c.map (·.1))<=23->∀n,fJ x c st none lim n->∀l ys H',aG H H'->H l=none->H' l=some (.lst ys)->ak H' ((aO x c st n).map iY) ys->Q (.ref l) H') /\
 (cF c (c.map (·.1))<=23->∀p cc,lD x c st none lim p cc->∀H',aG H H'->E (.ref CM) none H')
theorem SJ:bf ["post","stand","curve","limit"] ["post","stand","curve","limit"] (aK SN):=(by walk_at "c")
theorem aat {T:Addr} {tk:Tok} (F:uX K "led" "led" SN f fd T 300 tk) (lW:Vz P w K mg base k "walked" ["post","stand","curve","bound","limit"] (vO aJ aL)) :
  bZ P w K mg base (nu P w) (k+1) f fd ["post","stand","curve","limit"] (YC aJ aL):=by
 refine F.okE SJ (by rintro vs H Q E ⟨v,u,cv,x,st,c,lim,rfl,_⟩; rfl) (fun cdv A outer s H vs Q E QG hr h=>?_)
 obtain⟨v,u,cv,x,st,c,lim,rfl,a1,a2,a3,hx,hn,hs,hv,hl1,hl2,qW,qD,qM⟩:=h
 have ND:=SJ.nd
 refine⟨_,(aH (a_ (aX aQ (pfe lW hr (aa (pv 0) (aa (pv 1) (aa (pv 2) (aa cW (aa (pv 3) aj)))))) ao (fun _ _=>rfl)))),?_⟩
 walk_at "rd"
 refine⟨v,u,cv,x,st,c,none,lim,rfl,a1,a2,a3,hx,hn,hs,hv,hl1,hl2,fun h H' s' H3 s3=>qW h H3 (s3 s'),fun h n D v' H' s' ⟨p,l,ys,e1,e2,e3,e4,e5⟩=>?_,fun h p cc Bk=>?_,fun h p cc M H' s' H3 s3=>qM h p cc M H3 (s3 s')⟩
 ·subst e1
  exact Ix.tup e2 (v:=.ref l) rfl (qD h n D l ys H' s' e3 e4 e5)
 ·exact absurd Bk.hk (by show ¬false=true; decide)
theorem M_ {H:Hp} {ds:List PyData} {v:V} (h:At H (.list ds) v):∃a xs,v=.ref a/\H a=some (.lst xs)/\ak H ds xs:=by unfold At at h; exact h
noncomputable def SD:Nat->PyData->Prop
 | 0,_=>False
 | n+1,d=>(∃i,d=.int i)\/d=.none\/(∃t,d=.str t/\PyData.canLay0 (.str t)=true)\/(∃ds,d=.tuple ds/\ds.length<=1000/\∀e∈ds,SD n e)\/∃ds,d=.list ds/\ds.length<=1000/\∀e∈ds,SD n e
theorem SD.int {n:Nat} (i:Int):SD (n+1) (.int i):=.inl ⟨i,rfl⟩
theorem SD.none {n:Nat}:SD (n+1) .none:=.inr (.inl rfl)
theorem SD.str {n:Nat} {t:Str} (h:PyData.canLay0 (.str t)=true):SD (n+1) (.str t):=.inr (.inr (.inl ⟨t,rfl,h⟩))
theorem SD.tup {n:Nat} {ds:List PyData} (h:ds.length<=1000) (ha:∀e∈ds,SD n e):SD (n+1) (.tuple ds):=.inr (.inr (.inr (.inl ⟨ds,rfl,h,ha⟩)))
theorem SD.lst {n:Nat} {ds:List PyData} (h:ds.length<=1000) (ha:∀e∈ds,SD n e):SD (n+1) (.list ds):=.inr (.inr (.inr (.inr ⟨ds,rfl,h,ha⟩)))
theorem SD.ints {n:Nat} {l:List Int} (h:l.length<=1000):SD (n+2) (.tuple (l.map .int)):=SD.tup (by rw[bM]; exact h) fun e he=>by obtain⟨i,_,rfl⟩:=iK.mp he; exact SD.int i
theorem SD.stn {n:Nat} {st:dX} (h:jo st):SD (n+4) (jk st):=SD.tup (by show 6<=1000; decide) fun e he=>by
 simp only[bU,jH,or_false] at he
 rcases he with rfl | rfl | rfl | rfl | rfl | rfl
 ·exact SD.int _
 ·exact SD.int _
 ·exact SD.ints (by rw[h.c]; decide)
 ·exact SD.int _
 ·exact SD.int _
 ·exact SD.tup (by rw[bM,h.u]; decide) fun e he=>by
   obtain⟨u,hu,rfl⟩:=iK.mp he
   exact SD.ints (by rw[h.l u hu]; decide)
theorem SD.ent {n:Nat} {cv:Cv} {e:En} (hv:Ce cv) (h:qH cv e):SD (n+5) (iY e):=by
 have h1:SD (n+4) (jk e.st):=SD.stn h.st
 have h2:SD (n+4) (.tuple (e.sp.map .int)):=SD.ints (by rw[h.sl]; have:=hv.n; omega)
 unfold iY frD
 refine SD.tup (by split <;> (show 4<=1000; decide)) fun d hd=>?_
 rcases m_.mp hd with z | z
 ·simp only[bU,jH,or_false] at z
  rcases z with rfl | rfl
  ·exact h1
  ·exact h2
 ·split at z
  ·simp only[bU,jH,or_false] at z
   rcases z with rfl | rfl <;> exact SD.none
  ·simp only[bU,jH,or_false] at z
   rcases z with rfl | rfl <;> exact SD.int _
theorem SD.ents {n:Nat} {cv:Cv} {es:List En} (hv:Ce cv) (hl:es.length<=1000) (h:∀e∈es,qH cv e):SD (n+6) (.list (es.map iY)):=SD.lst (by rw[bM]; exact hl) fun d hd=>by
 obtain⟨e,he,rfl⟩:=iK.mp hd
 exact SD.ent hv (h e he)
theorem SD.data:∀(n:Nat) (d:PyData),SD n d->PyData.hasDict d=false/\PyData.canLay0 d=true/\PyData.depth d<=n
 | 0,_,h=>h.elim
 | n+1,d,h=>by
  have all:∀ds:List PyData,(∀e∈ds,SD n e)->PyData.hasDictAll ds=false/\PyData.canLayAll0 ds=true/\PyData.depthAll ds<=n:=fun ds=>by
   induction ds with
   | nil=>exact fun _=>⟨rfl,rfl,e_ _⟩
   | cons e r ih=>
    intro ha
    obtain⟨h1,h2,h3⟩:=ih fun e he=>ha e (jx _ he)
    obtain⟨k1,k2,k3⟩:=SD.data n e (ha e jT)
    refine⟨?_,?_,?_⟩
    ·unfold PyData.hasDictAll; rw[k1,h1]; rfl
    ·unfold PyData.canLayAll0; rw[k2,h2]; rfl
    ·unfold PyData.depthAll; exact Nat.max_le.mpr ⟨k3,h3⟩
  rcases h with⟨i,rfl⟩ | rfl | ⟨t,rfl,hc⟩ | ⟨ds,rfl,hn,hds⟩ | ⟨ds,rfl,hn,hds⟩
  ·exact⟨rfl,rfl,e_ _⟩
  ·exact⟨rfl,rfl,e_ _⟩
  ·exact⟨rfl,hc,e_ _⟩
  ·obtain⟨h1,h2,h3⟩:=all ds hds
   exact⟨by unfold PyData.hasDict; exact h1,by unfold PyData.canLay0; exact h2,by unfold PyData.depth; omega⟩
  ·obtain⟨h1,h2,h3⟩:=all ds hds
   exact⟨by unfold PyData.hasDict; exact h1,by unfold PyData.canLay0; exact h2,by unfold PyData.depth; omega⟩
noncomputable def Pa (n:Nat):Sp:=fun vs H Q _=>∃(v u:V) (d d':PyData),vs=[v,u]/\At H d v/\At H d' u/\SD n d/\SD n d'/\n<=60/\∀b H',(b=true↔d=d')->aG H H'->Q (.bl b) H'
theorem Sm.of {n:Nat} {v u:V} {d:PyData} {H:Hp} {Q:VK} {E:XK} (h1:At H d v) (h2:At H d u) (h3:SD n d) (hn:n<=60) (q:∀H',aG H H'->Q (.bl true) H'):Pa n [v,u] H Q E:=⟨v,u,d,d,rfl,h1,h2,h3,h3,hn,fun b H' hb s=>by rw[hb.mpr rfl]; exact q H' s⟩
theorem sX:bf ["_law_found","_law_due"] ["_law_found","_law_due"] (aK qU):=(by walk_at "c")
theorem JQ (F:jr K "_law_same" "_law_same" qU f fd):bZ P w K mg base jj (k+1) f fd ["_law_found","_law_due"] (Pa 0):=by
 refine F.ok sX (by rintro vs H Q E ⟨v,u,d,d',rfl,_⟩; rfl) (fun cdv A outer s H vs Q E hr h=>?_)
 obtain⟨v,u,d,d',rfl,_,_,h,_⟩:=h
 exact h.elim
theorem qF {G:Hp}:∀{bs:List Bool} {xs:List V},ak G (bs.map PyData.bool) xs->xs=bs.map V.bl
 | [],xs,h=>by unfold ak at h; exact h
 | b::bs,xs,h=>by
  obtain⟨x,r,rfl,h1,h2⟩:=ak.bA (d:=PyData.bool b) (ds:=bs.map PyData.bool) h
  unfold At at h1
  rw[h1,qF h2]; rfl
noncomputable def Rn (a b:PyData):Bool:=@decide (a=b) (Classical.propDecidable _)
theorem Ec {a b:PyData}:Rn a b=true↔a=b:=by unfold Rn; exact @decide_eq_true_iff _ (Classical.propDecidable _)
theorem U_ {a b:PyData} {c:Bool} (h:c=true↔a=b):c=Rn a b:=by
 cases c with
 | true=>exact(Ec.mpr (h.mp rfl)).symm
 | false=>cases e:Rn a b with
  | true=>exact absurd (h.mpr (Ec.mp e)) (by decide)
  | false=>rfl
theorem Ci:∀{ds es:List PyData},ds.length=es.length->((List.zipWith Rn ds es).all id=true↔ds=es)
 | [],[],_=>by simp
 | a::r,b::s,h=>by
  have ih:=Ci (ds:=r) (es:=s) (by simpa using h)
  rw[List.zipWith_cons_cons,List.all_cons,wM,ih]
  show Rn a b=true/\_↔_
  rw[Ec,List.cons.injEq]
theorem iT (n:Nat) (F:jr K "_law_same" "_law_same" qU f fd) (B:Bi mg) (rY:Ct P w K mg base k "_law_same" ["_law_found","_law_due"] (Pa n)):bZ P w K mg base jj (k+1) f fd ["_law_found","_law_due"] (Pa (n+1)):=by
 refine F.ok sX (by rintro vs H Q E ⟨v,u,d,d',rfl,_⟩; rfl) (fun cdv A outer s H vs Q E hr h=>?_)
 obtain⟨v,u,d,d',rfl,hv,hu,hd,hd',aiP,q⟩:=h
 have ND:=sX.nd
 refine⟨_,(aq (dC (mC (pb aaU B.isinstance bK (aa (pv 1) (aa (aY (aa (pty (by rfl) B.list j7) (aa (pty (by rfl) B.tuple cg) aj))) aj)))) (aq (dC (PW.pt (Hf (bc M3 (pb Nv B.isinstance bK (aa (pv 0) (aa (pty (by rfl) B.list j7) aj))) (pb Nv B.isinstance bK (aa (pv 1) (aa (pty (by rfl) B.list j7) aj))) (bh _)) (wW (bc M3 (pb Nu B.isinstance bK (aa (pv 0) (aa (pty (by rfl) B.tuple cg) aj))) (pb Nu B.isinstance bK (aa (pv 1) (aa (pty (by rfl) B.tuple cg) aj))) (bh _))))) (aH (a_ rD)) bR) (aH (a_ (Dm (fK jg (pb (fY (K:=K) rfl) B.len mY (aa (pv 0) aj)) (pb (fY (K:=K) rfl) B.len mY (aa (pv 1) aj)) (bh _)) (Dl (pb (Q0 rfl) B.all aba (aa (fu (nt:=2) (N':=["_law_one","_law_other"]) (js:=[]) rfl (WW (K:=K) rfl B.zip (aa (pv 0) (aa (pv 1) aj))) jz.of (fun fp s' H'=>(bH (K:=K) (n:=2) rfl rfl (aD (aF (i:=0) (by show List.Nodup (["_law_one","_law_other"]:List Str); decide) rfl (.inl (iJ rfl)) (.inr (iJ rfl))) (aD (aF (i:=1) (by show List.Nodup (["_law_one","_law_other"]:List Str); decide) rfl (.inl (iJ rfl)) (.inr (iJ rfl))) bG)))) (fun fp s' H'=>gF) (fun fp s' H'=>(pf rY hr (aa (pv 0) (aa (pv 1) aj))))) aj))))))) bR) (aq (dC (PW.pt (Hf (bc Dn (pv 1) cW (bh _)) (wW (mC (pb DW B.isinstance bK (aa (pv 1) (aa (pty (by rfl) B.str K6) aj))))))) (aH (a_ (Dm (fK (Dp hr.units) (pv 0) (pv 1) (bh _)) (Dl (fK jg (pb DW B.isinstance bK (aa (pv 0) (aa (pty (by rfl) B.str K6) aj))) (pb DW B.isinstance bK (aa (pv 1) (aa (pty (by rfl) B.str K6) aj))) (bh _)))))) bR) (aH (a_ (Dm (pb XD B.isinstance bK (aa (pv 0) (aa (pty (by rfl) B.int uh) aj))) (Dm (fK jg (pb HF B.isinstance bK (aa (pv 0) (aa (pty (by rfl) B.bool Oi) aj))) (pb HF B.isinstance bK (aa (pv 1) (aa (pty (by rfl) B.bool Oi) aj))) (bh _)) (Dl (fK (Dp hr.units) (pv 0) (pv 1) (bh _))))))))),?_⟩
 walk_at "rd"
 refine⟨(by decide),fun pt H1 f1 s1 e1=>?_⟩
 refine⟨_,d',pt,rfl,hu.mono s1,e1,?_⟩
 have hv1:=hv.mono s1
 have hu1:=hu.mono s1
 obtain⟨D1,D2,D3⟩:=SD.data _ _ hd
 obtain⟨E1,E2,E3⟩:=SD.data _ _ hd'
 have no:¬d=d'->Q (.bl false) H1:=fun h=>q false H1 ⟨fun z=>(by cases z),fun z=>absurd z h⟩ s1
 rcases hd' with⟨i,rfl⟩ | rfl | ⟨t,rfl,hc⟩ | ⟨ds',rfl,hn',aaY⟩ | ⟨ds',rfl,hn',aaY⟩
 ·have eu:u=.int i:=by unfold At at hu; exact hu
  subst eu
  rw[bB (by exact fun z=>by cases z)]
  refine⟨trivial,?_⟩
  rw[bB (by rw[decide_eq_true_eq]; exact fun z=>by cases z)]
  refine Io.of hu1 ⟨_,rfl,?_⟩
  rw[bB (by exact fun z=>by cases z)]
  refine Io.of hv1 ⟨_,rfl,?_⟩
  rcases hd with⟨j,rfl⟩ | rfl | ⟨t,rfl,hc⟩ | ⟨ds,rfl,hn,hds⟩ | ⟨ds,rfl,hn,hds⟩
  ·rw[aP (by rfl)]
   refine Io.of hv1 (Io.of hu1 ⟨rfl,?_⟩)
   refine⟨_,rfl,?_⟩
   rw[aP (by rw[decide_eq_true_eq]; rfl)]
   refine⟨_,_,hv1,hu1,rfl,rfl,rfl,rfl,by show 0<=60; decide,?_⟩
   exact q _ H1 (by show(j==i)=true↔_; simp) s1
  all_goals
   rw[bB (by exact fun z=>by cases z)]
   exact no fun z=>by cases z
 ·have eu:u=.non:=by unfold At at hu; exact hu
  subst eu
  rw[bB (by exact fun z=>by cases z)]
  refine⟨trivial,?_⟩
  rw[aP (by rfl)]
  refine⟨_,_,hv1,hu1,D1,E1,D2,E2,by omega,?_⟩
  rcases hd with⟨j,rfl⟩ | rfl | ⟨t,rfl,hc⟩ | ⟨ds,rfl,hn,hds⟩ | ⟨ds,rfl,hn,hds⟩
  ·rw[bB (by exact fun z=>by cases z)]; exact no fun z=>by cases z
  ·rw[aP (by rfl)]
   refine Io.of hv1 (Io.of hu1 ⟨rfl,?_⟩)
   have e:decide (V.bl (isStr .none)=V.bl (isStr .none))=true:=by rw[decide_eq_true_eq]
   rw[e]
   exact q true _ (by simp) s1
  ·rw[bB (by exact fun z=>by cases z)]; exact no fun z=>by cases z
  ·rw[bB (by exact fun z=>by cases z)]; exact no fun z=>by cases z
  ·rw[bB (by exact fun z=>by cases z)]; exact no fun z=>by cases z
 ·have eu:u=.str t:=by unfold At at hu; exact hu
  subst eu
  rw[bB (by exact fun z=>by cases z)]
  refine⟨trivial,?_⟩
  rw[bB (by rw[decide_eq_true_eq]; exact fun z=>by cases z)]
  refine Io.of hu1 ⟨_,rfl,?_⟩
  rw[aP (by rfl)]
  refine⟨_,_,hv1,hu1,D1,E1,D2,E2,by omega,?_⟩
  rcases hd with⟨j,rfl⟩ | rfl | ⟨t',rfl,hc'⟩ | ⟨ds,rfl,hn,hds⟩ | ⟨ds,rfl,hn,hds⟩
  ·rw[bB (by exact fun z=>by cases z)]; exact no fun z=>by cases z
  ·rw[bB (by exact fun z=>by cases z)]; exact no fun z=>by cases z
  ·by_cases c:t'=t
   ·subst c
    rw[SeqAt.eqv_refl _ hc,aP rfl]
    refine Io.of hv1 (Io.of hu1 ⟨rfl,?_⟩)
    have e:decide (V.bl (isStr (.str t'))=V.bl (isStr (.str t')))=true:=by rw[decide_eq_true_eq]
    rw[e]
    exact q true _ (by simp) s1
   ·rw[bB (by show ¬((t'==t)=true); simpa using c)]
    exact no fun z=>by cases z; exact c rfl
  ·rw[bB (by exact fun z=>by cases z)]; exact no fun z=>by cases z
  ·rw[bB (by exact fun z=>by cases z)]; exact no fun z=>by cases z
 ·rw[aP (by rfl)]
  refine Io.of hv1 (Io.of hu1 ⟨rfl,_,rfl,?_⟩)
  rcases hd with⟨j,rfl⟩ | rfl | ⟨t,rfl,hc⟩ | ⟨ds,rfl,hn,hds⟩ | ⟨ds,rfl,hn,hds⟩
  rotate_right 1
  ·rw[aP (by show(!decide (V.bl true=V.bl false))=true; decide)]
   exact no fun z=>by cases z
  all_goals
   rw[bB (by show ¬((!decide (V.bl false=V.bl false))=true); decide)]
   refine Io.of hv1 (Io.of hu1 ⟨rfl,_,rfl,?_⟩)
  ·rw[aP (by show(!decide (V.bl false=V.bl true))=true; decide)]; exact no fun z=>by cases z
  ·rw[aP (by show(!decide (V.bl false=V.bl true))=true; decide)]; exact no fun z=>by cases z
  ·rw[aP (by show(!decide (V.bl false=V.bl true))=true; decide)]; exact no fun z=>by cases z
  rw[bB (by show ¬((!decide (V.bl true=V.bl true))=true); decide)]
  obtain⟨a,xs,rfl,ha,hxs⟩:=bx hv1
  obtain⟨b,ys,rfl,hb,hys⟩:=bx hu1
  have lx:xs.length=ds.length:=hxs.length
  have ly:ys.length=ds'.length:=hys.length
  refine⟨a,xs,rfl,.inr (cB.of ha),b,ys,rfl,.inr (cB.of hb),?_⟩
  rw[lx,ly]
  refine⟨rfl,_,rfl,?_⟩
  by_cases cl:ds.length=ds'.length
  ·rw[aP (by rw[decide_eq_true_eq,cl])]
   rw[Ad]
   refine .inl ?_
   have lz:(List.zipWith Rn ds ds').length=ds.length:=by rw[y_,cl,Av]
   refine BL (es:=(List.zipWith Rn ds ds').map PyData.bool) (fun R hR=>?_) ha hb (by rw[bM,lz,lx]) (by rw[bM,lz,ly,cl]) (by rw[bM,lz]; exact jt (bu (by omega))) (cX.mpr fun d hd=>by obtain⟨z,_,rfl⟩:=iK.mp hd; rfl) (fun j x y e H' hx hy he s' R hR=>?_) (fun acc zs H' s' hacc hl hA=>?_)
   ·walk_at "rd"; exact hR
   ·obtain⟨d1,e1,a1⟩:=hxs.get hx
    obtain⟨d2,e2,a2⟩:=hys.get hy
    have ee:e=.bool (Rn d1 d2):=by
     rw[fQ,Pz,e1,e2] at he
     exact(Option.some.inj he).symm
    walk_at "rd"
    refine⟨x,y,d1,d2,rfl,a1.mono s',a2.mono s',hds _ (je e1),aaY _ (je e2),by omega,fun b cY hb s''=>hR _ _ s'' ?_⟩
    rw[ee,U_ hb]
    exact At.bool _
   ·cases qF hA
    refine⟨acc,_,rfl,hl,?_⟩
    exact q _ H' (by rw[Ci cl]; exact⟨fun z=>by rw[z],fun z=>by cases z; rfl⟩) (s1.trans s')
  ·rw[bB (by rw[decide_eq_true_eq]; exact fun z=>cl (by exact_mod_cast V.int.inj z))]
   exact no fun z=>by cases z; exact cl rfl
 ·rw[aP (by rfl)]
  refine Io.of hv1 (Io.of hu1 ⟨rfl,_,rfl,?_⟩)
  rcases hd with⟨j,rfl⟩ | rfl | ⟨t,rfl,hc⟩ | ⟨ds,rfl,hn,hds⟩ | ⟨ds,rfl,hn,hds⟩
  ·rw[aP (by show(!decide (V.bl false=V.bl true))=true; decide)]; exact no fun z=>by cases z
  ·rw[aP (by show(!decide (V.bl false=V.bl true))=true; decide)]; exact no fun z=>by cases z
  ·rw[aP (by show(!decide (V.bl false=V.bl true))=true; decide)]; exact no fun z=>by cases z
  ·rw[aP (by show(!decide (V.bl false=V.bl true))=true; decide)]; exact no fun z=>by cases z
  rw[bB (by show ¬((!decide (V.bl true=V.bl true))=true); decide)]
  refine Io.of hv1 (Io.of hu1 ⟨rfl,_,rfl,?_⟩)
  rw[bB (by show ¬((!decide (V.bl false=V.bl false))=true); decide)]
  obtain⟨a,xs,rfl,ha,hxs⟩:=M_ hv1
  obtain⟨b,ys,rfl,hb,hys⟩:=M_ hu1
  have lx:xs.length=ds.length:=hxs.length
  have ly:ys.length=ds'.length:=hys.length
  refine⟨a,xs,rfl,.inl (dh.of ha),b,ys,rfl,.inl (dh.of hb),?_⟩
  rw[lx,ly]
  refine⟨rfl,_,rfl,?_⟩
  by_cases cl:ds.length=ds'.length
  ·rw[aP (by rw[decide_eq_true_eq,cl])]
   rw[Ad]
   refine .inr ?_
   have lz:(List.zipWith Rn ds ds').length=ds.length:=by rw[y_,cl,Av]
   refine QQ (es:=(List.zipWith Rn ds ds').map PyData.bool) (fun R hR=>?_) ha hb (by rw[bM,lz,lx]) (by rw[bM,lz,ly,cl]) (by rw[bM,lz]; exact jt (bu (by omega))) (cX.mpr fun d hd=>by obtain⟨z,_,rfl⟩:=iK.mp hd; rfl) (fun j x y e H' hx hy he s' R hR=>?_) (fun acc zs H' s' hacc hl hA=>?_)
   ·walk_at "rd"; exact hR
   ·obtain⟨d1,e1,a1⟩:=hxs.get hx
    obtain⟨d2,e2,a2⟩:=hys.get hy
    have ee:e=.bool (Rn d1 d2):=by
     rw[fQ,Pz,e1,e2] at he
     exact(Option.some.inj he).symm
    walk_at "rd"
    refine⟨x,y,d1,d2,rfl,a1.mono s',a2.mono s',hds _ (je e1),aaY _ (je e2),by omega,fun b cY hb s''=>hR _ _ s'' ?_⟩
    rw[ee,U_ hb]
    exact At.bool _
   ·cases qF hA
    refine⟨acc,_,rfl,hl,?_⟩
    exact q _ H' (by rw[Ci cl]; exact⟨fun z=>by rw[z],fun z=>by cases z; rfl⟩) (s1.trans s')
  ·rw[bB (by rw[decide_eq_true_eq]; exact fun z=>cl (by exact_mod_cast V.int.inj z))]
   exact no fun z=>by cases z; exact cl rfl
noncomputable def Li:Sp:=fun vs H Q _=>∃(a:Addr) (n:Nat),vs=[.ref a]/\Tp H a n/\n<=100000000/\∀p x H',PsT x->At (hid a H') (jn x) (.ref p)->Tp H' a (n+400)->SX a H H'->Q (.ref p) H'
theorem mZ:bf ["_law_tape_here","_law_least_here","_law_rules","_law_hands","_law_rests","_law_late","_law_every","_law_k"] ["_law_tape_here"] (aK jD):=(by walk_at "c")
theorem uP (F:jr K "_law_small_post" "_law_small_post" jD f fd) (B:Bi mg) (bC:Ct P w K mg base k "_law_draw" ["_law_tape_here","_law_many"] pZ) (X4:Ct P w K mg base k "_law_row" ["_law_tape_here"] Jl) :
  bZ P w K mg base jj (k+1) f fd ["_law_tape_here"] Li:=by
 refine F.ok mZ (by rintro vs H Q E ⟨a,n,rfl,_⟩; rfl) (fun cdv A outer s H vs Q E hr h=>?_)
 obtain⟨a,n,rfl,tp,hn,q⟩:=h
 have ND:=mZ.nd
 refine⟨_,(aq (mD (i:=1) (j:=2) rfl ND rfl rfl (by decide) rfl rfl (aa (pf bC hr (aa (pv 0) (aa ao aj))) (aa (bL aj) aj)) (by rfl)) (aq (aZ (i:=3) ND rfl (by walk_at "o") (aY (aa (pv 1) (aa (aV bD (aV bD (pv 1) ao) (pf bC hr (aa (pv 0) (aa ao aj)))) aj)))) (aq (aZ (i:=4) ND rfl (by walk_at "o") (aX aQ (bL (aa (aY (aa ao (aa ao aj))) (aa (aY (aa ao (aa ao aj))) (aa (aY (aa ao (aa ao aj))) (aa (aY (aa ao (aa ao aj))) aj))))) (pf bC hr (aa (pv 0) (aa ao aj))) (fun _ _=>rfl))) (aq (mD (i:=5) (j:=6) rfl ND rfl rfl (by decide) rfl rfl (aa (aX aQ (bL (aa ao (aa ao (aa ao (aa ao aj))))) (pf bC hr (aa (pv 0) (aa ao aj))) (fun _ _=>rfl)) (aa (aX aQ (bL (aa ao (aa ao (aa ao (aa ao aj))))) (pf bC hr (aa (pv 0) (aa ao aj))) (fun _ _=>rfl)) aj)) (by rfl)) (aq (gb PassesOwn.never rfl (d_ (by rfl) B.range (aa (pf bC hr (aa (pv 0) (aa ao aj))) aj)) (aF (i:=7) ND rfl (by walk_at "o")) (aH (iw (gJ (K:=K) rfl PySem.F.plainAttrs_list PySem.F.slot_list_append PySem.F.type_list_append fG (pv 2) (aa (pt (b8) B.tuple cg (aa (jY (N':=["_law_j","_law_tape_here"]) (js:=[0]) rfl (d_ (by rfl) B.range (aa (aV bD ao (pf bC hr (aa (pv 0) (aa ao aj)))) aj)) yP.mk1 rfl (by decide) rfl (fun fp s' H'=>(pf X4 hr (aa (pv 1) aj)))) aj)) aj))))) (aH (a_ (aY (aa (aV bD ao (pf bC hr (aa (pv 0) (aa ao aj)))) (aa (aV bD ao (pf bC hr (aa (pv 0) (aa ao aj)))) (aa (pv 3) (aa (pv 5) (aa (pv 6) (aa (pv 4) (aa (pt (b8) B.tuple cg (aa (pv 2) aj)) aj))))))))))))))),?_⟩
 walk_at "rd"
 refine gQ.of tp (by omega) (by decide) (by decide) fun lo H1 l1 u1 t1 s1=>⟨e_ _,fun p H6 f6 s6 e6'=>⟨_,_,rfl,?_⟩⟩
 have pa:p≠a:=t1.ne f6
 have t6:=t1.same s6
 try walk_at "rd"
 refine gQ.of t6 (by omega) (by decide) (by decide) fun y8 H8 l8 u8 t8 s8=>⟨_,_,rfl,rfl,(by decide),fun p9 H9 f9 s9 e9=>?_⟩
 have n9:=t8.ne f9
 have t9:=t8.same s9
 refine⟨(by decide),fun q1 G1 g1 r1 d1=>⟨(by decide),fun q2 G2 g2 r2 d2=>⟨(by decide),fun q3 G3 g3 r3 d3=>⟨(by decide),fun q4 G4 g4 r4 d4=>⟨(by decide),fun q5 G5 g5 r5 d5=>?_⟩⟩⟩⟩⟩
 have m1:=t9.ne g1
 have m2:=(t9.same r1).ne g2
 have m3:=((t9.same r1).same r2).ne g3
 have m4:=(((t9.same r1).same r2).same r3).ne g4
 have m5:=((((t9.same r1).same r2).same r3).same r4).ne g5
 have r15:=r1.trans (r2.trans (r3.trans (r4.trans r5)))
 have hp9:H9 p=some (.lst []):=(s8.trans (SX.of s9)).get pa e6'
 refine gQ.of (t9.same r15) (by omega) (by decide) (by decide) fun y10 uL l10 u10 ZK nq=>?_
 have pk:∃(qq:Addr) (u d:Int),Il [V.ref q1,V.ref q2,V.ref q3,V.ref q4] y10=some (.ref qq)/\qq≠a/\uL qq=some (.tup [.int u,.int d])/\(0<=u/\u<=9)/\(0<=d/\d<=9):=by
  have hy:y10=0\/y10=1\/y10=2\/y10=3:=by omega
  rcases hy with rfl | rfl | rfl | rfl
  ·exact⟨q1,0,0,rfl,m1,nq.get m1 ((r2.trans (r3.trans (r4.trans r5))) _ _ d1),by decide,by decide⟩
  ·exact⟨q2,1,0,rfl,m2,nq.get m2 ((r3.trans (r4.trans r5)) _ _ d2),by decide,by decide⟩
  ·exact⟨q3,0,1,rfl,m3,nq.get m3 ((r4.trans r5) _ _ d3),by decide,by decide⟩
  ·exact⟨q4,2,1,rfl,m4,nq.get m4 (r5 _ _ d4),by decide,by decide⟩
 obtain⟨qq,ru,rd,hq1,hq2,hq3,hq4,hq5⟩:=pk
 have mq:qq≠p:=fun z=>by
  rw[z,((SX.of r15).trans nq).get pa hp9] at hq3
  cases hq3
 have m9:p9≠p:=fun z=>by rw[z] at e9; rw[e9] at hp9; cases hp9
 refine Ix.lst (nq.get m5 d5) hq1 ?_
 refine⟨(by decide),fun p11 sG f11 pR Iw=>gQ.of (ZK.same pR) (by omega) (by decide) (by decide) fun y12 vG l12 u12 t12 s12=>?_⟩
 have n11:=ZK.ne f11
 obtain⟨la,hla,ela⟩:=jB (ts:=[0,1,0,2]) l12 u12
 have hla':0<=la/\la<=4:=by
  simp only[bU,jH,or_false] at hla
  rcases hla with rfl | rfl | rfl | rfl <;> decide
 refine Ix.lst (s12.get n11 Iw) ela ?_
 refine⟨(by decide),fun p13 Iz Za jA N7=>gQ.of (t12.same jA) (by omega) (by decide) (by decide) fun y14 Ye l14 u14 t14 Dd=>?_⟩
 have n13:=t12.ne Za
 obtain⟨ev,hev,eev⟩:=jB (ts:=[1,2,1,3]) l14 u14
 have afh:1<=ev/\ev<=6:=by
  simp only[bU,jH,or_false] at hev
  rcases hev with rfl | rfl | rfl | rfl <;> decide
 refine Ix.lst (Dd.get n13 N7) eev ⟨_,_,rfl,?_⟩
 try walk_at "rd"
 show yS _ _ _ _ _ _
 rw[vM]
 walk_at "rd"
 refine gQ.of t14 (by omega) (by decide) (by decide) fun m H20 l20 u20 t20 s20=>?_
 have z10:SX a uL H20:=(SX.of pR).trans (s12.trans ((SX.of jA).trans (Dd.trans s20)))
 have z9:SX a H9 H20:=(SX.of r15).trans (nq.trans z10)
 have z6:SX a H6 H20:=s8.trans ((SX.of s9).trans z9)
 have xx:SX a H H6:=s1.trans (SX.of s6)
 have fp:H p=none:=by
  cases e:H p with
  | none=>rfl
  | some o=>exact absurd (s1.get pa e) (by rw[f6]; simp)
 refine FK.of (n:=m.toNat) (by omega) (by omega) (fun i σ H'=>∃(eN:List (List fP)) (ys:List V) (o3:Option V),σ=[some (.ref a),some (.int lo),some (.ref p),some (.ref p9),some (.ref qq),some (.int la),some (.int ev),o3]/\eN.length=i/\ys.length=i/\(∀rs∈eN,adK rs/\∀r∈rs,r.n<=1000000000000)/\H' p=some (.lst ys)/\ak (hid p (hid a H')) (eN.map qY) ys/\Tp H' a (n+20+60*i)/\SX a H H'/\H' p9=some (.tup [.int lo,.int (lo+1+y8)])/\H' qq=some (.tup [.int ru,.int rd]))
  ⟨[],[],_,rfl,rfl,rfl,fun d h=>by simp at h,z6.get pa e6',ak.nil,t20.mono (by omega),xx.trans z6,z9.get n9 e9,z10.get hq2 hq3⟩ ?_ ?_
 ·rintro i σ H3 hi ⟨eN,ys,o3,rfl,ld,ly,od,h3,a3,t3,s3,z8,Rv⟩
  walk_at "rd"
  refine⟨.inl ⟨rfl,_,dh.of h3⟩,?_⟩
  rw[lE]
  walk_at "rd"
  refine gQ.of t3 (by omega) (by decide) (by decide) fun r H4 l4 u4 t4 s4=>?_
  have h4:=s4.get pa h3
  walk_at "rd"
  refine CK.of (n:=(1+r).toNat) (by omega) (by omega) fun acc hacc=>?_
  have ca:acc≠a:=t4.ne hacc
  have cp:acc≠p:=fun z=>by subst z; rw[hacc] at h4; cases h4
  refine⟨fun j zs H'=>∃es:List fP,es.length=j/\zs.length=j/\(∀d∈es,Vv d/\d.n<=1000000000000)/\ak (hid acc (hid a H')) (es.map qi) zs/\H' acc=some (.lst zs)/\Tp H' a (n+20+60*i+1+12*j)/\SX a H4 H',?_,?_,?_⟩
  ·exact⟨[],rfl,rfl,fun d h=>by simp at h,ak.nil,aC,t4.eZ ca,(SX.refl a H4).eZ hacc ca⟩
  ·rintro j zs H5 hj ⟨es,le,lz,oe,a5,c5,t5,s5⟩
   show qL _ _ _ _ [some _,some (.ref a)] H5 _
   walk_at "rd"
   refine agg.of t5 (by omega) fun v d H6 rk a6 t6 s6=>?_
   have c6:=s6.get ca c5
   have c6':hid a H6 acc=some (.lst zs):=by rw[cG ca]; exact c6
   refine⟨c6,(by rw[lz]; exact bu (by omega)),es++[d],by rw[gH,le]; rfl,by rw[gH,lz]; rfl,fun x hx=>?_,?_,aC,?_,?_⟩
   ·rcases m_.mp hx with z | z
    ·exact oe x z
    ·rw[fH.mp z]; exact rk
   ·rw[d8 ca,iD,iu]
    exact(a5.mono (aG.hid s6)).append (ak.cons (At.uT c6' _ v (Wt d) a6) ak.nil)
   ·exact(t6.eZ ca).mono (by omega)
   ·exact(s5.trans s6).eZ hacc ca
  ·rintro zs H6 ⟨es,le,lz,oe,a6,c6,t6,s6⟩
   have h6:=s6.get pa h4
   refine⟨acc,zs,rfl,c6,fun l hl=>?_⟩
   have la:l≠a:=t6.ne hl
   have lp:l≠p:=fun z=>by subst z; rw[hl] at h6; cases h6
   refine⟨p,ys,_,rfl,rfl,by rw[aR (Ne.symm lp)]; exact h6,by rw[ly]; exact bu (by omega),?_⟩
   have A1:At (hid a (upd H6 l (.tup zs))) (qY es) (.ref l):=by
    rw[d8 la]
    have fr:hid a H6 l=none:=by rw[cG la]; exact hl
    exact At.tup aC ((a6.mono fW).mono (aM fr _))
   have h7:hid a (upd H6 l (.tup zs)) p=some (.lst ys):=by rw[cG pa,aR (Ne.symm lp)]; exact h6
   have Wo:SX a H3 (upd H6 l (.tup zs)):=(s4.trans s6).trans (SX.of (aM hl _))
   refine⟨eN++[es],ys++[.ref l],_,rfl,by rw[gH,ld]; rfl,by rw[gH,ly]; rfl,fun x hx=>?_,aC,?_,?_,?_,?_,?_⟩
   ·rcases m_.mp hx with z | z
    ·exact od x z
    ·rw[fH.mp z]; exact⟨⟨by omega,by omega,fun r hr=>(oe r hr).1⟩,fun r hr=>(oe r hr).2⟩
   ·rw[d8 pa,iD,iu]
    exact(a3.mono (aG.hid Wo)).append (ak.cons (At.uT h7 _ _ (S5 es) A1) ak.nil)
   ·exact((t6.eZ la).eZ pa).mono (by omega)
   ·exact(s3.trans Wo).eZ fp pa
   ·rw[aR m9]; exact Wo.get n9 z8
   ·rw[aR mq]; exact Wo.get hq2 Rv
 ·rintro σ H3 ⟨eN,ys,o3,rfl,ld,ly,od,h3,a3,t3,s3,z8,Rv⟩
  walk_at "rd"
  refine gQ.of t3 (by omega) (by decide) (by decide) fun y1 G1 l1' u1' t1' s1'=>⟨_,_,rfl,rfl,gQ.of t1' (by omega) (by decide) (by decide) fun y2 G2 l2 u2 t2 s2=>⟨_,_,rfl,rfl,?_⟩⟩
  have x32:=s1'.trans s2
  have h2:=x32.get pa h3
  have a2:ak (hid p (hid a G2)) (eN.map qY) ys:=a3.mono (aG.hid x32)
  have z8':=x32.get n9 z8
  have aes:=x32.get hq2 Rv
  refine⟨p,ys,rfl,h2,fun l hl=>?_⟩
  have Y5:l≠a:=t2.ne hl
  have A1:At (hid a (upd G2 l (.tup ys))) (Js eN) (.ref l):=by
   rw[d8 Y5]
   have fr:hid a G2 l=none:=by rw[cG Y5]; exact hl
   exact At.tup aC ((a2.mono fW).mono (aM fr _))
  have s4:=aM hl (HO.tup ys)
  have t4:=t2.eZ (o:=.tup ys) Y5
  generalize upd G2 l (.tup ys)=H4 at A1 s4 t4 ⊢
  refine⟨(by decide),fun p5 H5 f5 s5 e5=>?_⟩
  have n5:=t4.ne f5
  have z45:=s4.trans s5
  obtain⟨Y5,rfl⟩:∃Y5:Nat,la=(Y5:Int):=⟨la.toNat,by omega⟩
  refine q p5 ⟨1+y1,3+y2,lo,lo+1+y8,Y5,ev,ru,rd,eN⟩ H5 ⟨⟨by show 1<=1+y1/\1+y1<=1000000000000000000; omega,by show 0<=3+y2/\3+y2<=1000000000000; omega,by show 0<=lo/\lo<=lo+1+y8; omega,by show lo+1+y8<=12; omega,by show Y5<=4; omega,afh,hq4,hq5,by show eN.length<=3; omega,fun rs hrs=>(od rs hrs).1⟩,by show 1+y1<=1000000; omega,fun rs hrs=>(od rs hrs).2⟩ ?_ ((t4.same s5).mono (by omega)) (s3.trans (x32.trans (SX.of z45)))
  exact At.tup (by rw[cG n5]; exact e5) (ak.cons (At.int _) (ak.cons (At.int _) (ak.cons (At.tup (by rw[cG n9]; exact z45 _ _ z8') (bw [lo,lo+1+y8])) (ak.cons (At.int _) (ak.cons (At.int _) (ak.cons (At.tup (by rw[cG hq2]; exact z45 _ _ aes) (bw [ru,rd])) (ak.cons (A1.mono (SX.of s5)) ak.nil)))))))
structure StL (x:dX):Prop where
 w:U12 x.w
 r:0<=x.r
 c:x.cs.length=5
 cn:∀y∈x.cs,0<=y
 sm:x.r+x.cs.sum<=12
 s:0<=x.s/\x.s<=5
 t:0<=x.t/\x.t<=9
 u:x.us.length=3
 ul:∀y∈x.us,Vt y
theorem StL.is {x:dX} (h:StL x):jo x:=⟨h.c,h.u,fun y hy=>by obtain⟨a,b,c,rfl,_⟩:=h.ul y hy; rfl⟩
noncomputable def F_:Sp:=fun vs H Q _=>∃(a:Addr) (n:Nat) (v:V) (x:dB),vs=[.ref a,v]/\At H (jn x) v/\Rb x/\Tp H a n/\n<=100000000/\∀p y H',StL y->At (hid a H') (jk y) (.ref p)->Tp H' a (n+60)->SX a H H'->Q (.ref p) H'
theorem lG:bf ["_law_tape_here","_law_post","_law_called","_law_seen","_law_wait"] ["_law_tape_here","_law_post"] (aK jl):=(by walk_at "c")
theorem tW (F:jr K "_law_small_stand" "_law_small_stand" jl f fd) (B:Bi mg) (bC:Ct P w K mg base k "_law_draw" ["_law_tape_here","_law_many"] pZ):bZ P w K mg base jj (k+1) f fd ["_law_tape_here","_law_post"] F_:=by
 refine F.ok lG (by rintro vs H Q E ⟨a,n,v,x,rfl,_⟩; rfl) (fun cdv A outer s H vs Q E hr h=>?_)
 obtain⟨a,n,pA,x,rfl,aA,hx,tp,hn,q⟩:=h
 have ND:=lG.nd
 refine⟨_,(aq (dC (bc jg (pf bC hr (aa (pv 0) (aa ao aj))) ao (bh _)) (aH (a_ (aY (aa ao (aa (aX aQ (aX aQ (pv 1) ao (fun _ _=>rfl)) ao (fun _ _=>rfl)) (aa (aY (aa ao (aa ao (aa ao (aa ao (aa ao aj)))))) (aa ao (aa ao (aa (aY (aa (aY (aa ao (aa ao (aa ao aj)))) (aa (aY (aa ao (aa ao (aa ao aj)))) (aa (aY (aa ao (aa ao (aa ao aj)))) aj)))) aj))))))))) bR) (aq (aZ (i:=2) ND rfl (by walk_at "o") (pt (b8) B.tuple cg (aa (jY (N':=["_law_k","_law_tape_here"]) (js:=[0]) rfl (d_ (by rfl) B.range (aa ao aj)) yP.mk1 rfl (by decide) rfl (fun fp s' H'=>(aX aQ (bL (aa ao (aa ao (aa ao (aa ao (aa ao aj)))))) (pf bC hr (aa (pv 1) (aa ao aj))) (fun _ _=>rfl)))) aj))) (aq (aZ (i:=3) ND rfl (by walk_at "o") (pt (b8) B.tuple cg (aa (jY (N':=["_law_j","_law_tape_here"]) (js:=[0]) rfl (d_ (by rfl) B.range (aa ao aj)) yP.mk1 rfl (by decide) rfl (fun fp s' H'=>(pt (b8) B.tuple cg (aa (jY (N':=["_law_k","_law_tape_here"]) (js:=[1]) rfl (d_ (by rfl) B.range (aa ao aj)) yP.mk1 rfl (by decide) rfl (fun fp s' H'=>(pf bC hr (aa (pv 1) (aa ao aj))))) aj)))) aj))) (aq (aZ (i:=4) ND rfl (by walk_at "o") (pf bC hr (aa (pv 0) (aa (aX aQ (bL (aa ao (aa ao (aa ao aj)))) (pf bC hr (aa (pv 0) (aa ao aj))) (fun _ _=>rfl)) aj)))) (aH (a_ (aY (aa (pv 4) (aa (pf bC hr (aa (pv 0) (aa ao aj))) (aa (pv 2) (aa (pf bC hr (aa (pv 0) (aa ao aj))) (aa (pf bC hr (aa (pv 0) (aa ao aj))) (aa (pv 3) aj))))))))))))),?_⟩
 walk_at "rd"
 refine gQ.of tp (by omega) (by decide) (by decide) fun y1 H1 l1 u1 t1 s1=>?_
 walk_at "rd"
 refine gP (fun c1=>?_) (fun c1=>?_)
 ·obtain⟨pa,pb,pc,pd,rfl,p1,p2,_,_⟩:=jJ aA
  have na:=tp.neT p1
  have nb:=tp.neT p2
  refine Ix.tup (s1.get na p1) (v:=.ref pb) rfl (Ix.tup (s1.get nb p2) (v:=.int x.lo) rfl ⟨(by decide),fun q1 G1 g1 r1 d1=>⟨(by decide),fun q2 G2 g2 r2 d2=>⟨(by decide),fun q3 G3 g3 r3 d3=>⟨(by decide),fun q4 G4 g4 r4 d4=>⟨(by decide),fun q5 G5 g5 r5 d5=>⟨(by decide),fun q6 G6 g6 r6 d6=>?_⟩⟩⟩⟩⟩⟩)
  have m1:=t1.ne g1
  have m2:=(t1.same r1).ne g2
  have m3:=((t1.same r1).same r2).ne g3
  have m4:=(((t1.same r1).same r2).same r3).ne g4
  have m5:=((((t1.same r1).same r2).same r3).same r4).ne g5
  have m6:=(((((t1.same r1).same r2).same r3).same r4).same r5).ne g6
  have r16:=r1.trans (r2.trans (r3.trans (r4.trans (r5.trans r6))))
  have T0:∀qq:Addr,qq≠a->G6 qq=some (.tup [.int 0,.int 0,.int 0])->At (hid a G6) (dw [0,0,0]) (.ref qq):=fun qq mq dq=>At.tup (by rw[cG mq]; exact dq) (bw [0,0,0])
  have hlo:=hx.lo
  have hhi:=hx.hi
  refine q q6 ⟨0,x.lo,[0,0,0,0,0],0,0,[[0,0,0],[0,0,0],[0,0,0]]⟩ G6 ⟨by show U12 0; exact⟨by decide,by decide⟩,hlo.1,rfl,fun y hy=>?_,by show x.lo+0<=12; omega,by show(0:Int)<=0/\(0:Int)<=5; decide,by show(0:Int)<=0/\(0:Int)<=9; decide,rfl,fun y hy=>?_⟩ ?_ ((t1.same r16).mono (by omega)) (s1.trans (SX.of r16))
  ·simp only[bU,jH,or_false,or_self] at hy
   rw[hy]; decide
  ·simp only[bU,jH,or_false,or_self] at hy
   rw[hy]; exact⟨0,0,0,rfl,⟨by decide,by decide⟩,⟨by decide,by decide⟩,⟨by decide,by decide⟩⟩
  ·exact At.tup (by rw[cG m6]; exact d6) (ak.cons (At.int _) (ak.cons (At.int _) (ak.cons (At.tup (by rw[cG m1]; exact r6 _ _ (r5 _ _ (r4 _ _ (r3 _ _ (r2 _ _ d1))))) (bw [0,0,0,0,0])) (ak.cons (At.int _) (ak.cons (At.int _) (ak.cons (At.tup (by rw[cG m5]; exact r6 _ _ d5) (ak.cons (T0 q2 m2 (r6 _ _ (r5 _ _ (r4 _ _ (r3 _ _ d2))))) (ak.cons (T0 q3 m3 (r6 _ _ (r5 _ _ (r4 _ _ d3)))) (ak.cons (T0 q4 m4 (r6 _ _ (r5 _ _ d4))) ak.nil)))) ak.nil))))))
 ·rw[lE]
  walk_at "rd"
  refine CK.of (n:=5) rfl (by decide) fun K9 NQ=>?_
  have ca2:K9≠a:=t1.ne NQ
  refine⟨fun i zs H'=>∃cs:List Int,zs=cs.map V.int/\cs.length=i/\(∀c∈cs,0<=c/\c<=2)/\H' K9=some (.lst zs)/\Tp H' a (n+1+i)/\SX a H1 H',⟨[],rfl,rfl,fun c h=>by simp at h,aC,t1.eZ ca2,(SX.refl a H1).eZ NQ ca2⟩,?_,?_⟩
  ·rintro i zs H4 hi ⟨cs,rfl,lc,hc,c4,t4,s4⟩
   show R1 _ _ _ [some _,some (.ref a)] H4 _
   walk_at "rd"
   refine⟨(by decide),fun p5 H5 f5 r5 e5=>gQ.of (t4.same r5) (by omega) (by decide) (by decide) fun y6 H6 l6 u6 t6 s6=>?_⟩
   have n5:=t4.ne f5
   obtain⟨v,hv,ev⟩:=jB (ts:=[0,0,0,1,2]) l6 u6
   have hv':0<=v/\v<=2:=by
    simp only[bU,jH,or_false] at hv
    rcases hv with rfl | rfl | rfl | rfl | rfl <;> decide
   refine Ix.lst (s6.get n5 e5) ev ⟨s6.get ca2 (r5 _ _ c4),by rw[bM]; exact bu (by omega),cs++[v],by rw[iu]; rfl,by rw[gH,lc]; rfl,fun c hc'=>?_,aC,(t6.eZ ca2).mono (by omega),(s4.trans ((SX.of r5).trans s6)).eZ NQ ca2⟩
   rcases m_.mp hc' with z | z
   ·exact hc c z
   ·rw[fH.mp z]; exact hv'
  ·rintro zs H4 ⟨cs,rfl,lc,hc,c4,t4,s4⟩
   refine⟨K9,_,rfl,c4,fun l2' hl2=>?_⟩
   have la2:l2'≠a:=t4.ne hl2
   have A2:At (hid a (upd H4 l2' (.tup (cs.map V.int)))) (.tuple (cs.map .int)) (.ref l2'):=by
    rw[d8 la2]
    exact At.tup aC (bw cs)
   have t5:Tp (upd H4 l2' (.tup (cs.map V.int))) a (n+6):=t4.eZ la2
   have x5:SX a H1 (upd H4 l2' (.tup (cs.map V.int))):=s4.trans (SX.of (aM hl2 _))
   generalize upd H4 l2' (.tup (cs.map V.int))=H5 at *
   show ir _ _ _ _ _ _
   rw[lE]
   walk_at "rd"
   refine CK.of (n:=3) rfl (by decide) fun acc hacc=>?_
   have ca:acc≠a:=t5.ne hacc
   refine⟨fun i ys H'=>∃us:List (List Int),us.length=i/\(∀u∈us,Vt u)/\ak (hid acc (hid a H')) (us.map dw) ys/\ys.length=i/\H' acc=some (.lst ys)/\Tp H' a (n+6+3*i)/\SX a H5 H',⟨[],rfl,fun u h=>by simp at h,ak.nil,rfl,aC,t5.eZ ca,(SX.refl a H5).eZ hacc ca⟩,?_,?_⟩
   ·rintro i ys H2 hi ⟨us,l2,u2,a2,y2,c2,t2,s2⟩
    show ZJ _ _ [some _,some (.ref a)] H2 _
    walk_at "rd"
    rw[lE]
    walk_at "rd"
    refine CK.of (n:=3) rfl (by decide) fun X7 HN=>?_
    have ca3:X7≠a:=t2.ne HN
    have c23:acc≠X7:=fun z=>by rw[<- z,c2] at HN; cases HN
    refine⟨fun j zs H'=>∃es:List Int,zs=es.map V.int/\es.length=j/\(∀c∈es,0<=c/\c<7)/\H' X7=some (.lst zs)/\Tp H' a (n+6+3*i+j)/\SX a H2 H',⟨[],rfl,rfl,fun c h=>by simp at h,aC,t2.eZ ca3,(SX.refl a H2).eZ HN ca3⟩,?_,?_⟩
    ·rintro j zs H6 hj ⟨es,rfl,le,he,c6,t6,s6⟩
     show qL _ _ _ _ [some _,some (.ref a)] H6 _
     walk_at "rd"
     refine gQ.of t6 (by omega) (by decide) (by decide) fun v H7 l7 u7 t7 s7=>⟨s7.get ca3 c6,by rw[bM]; exact bu (by omega),es++[v],by rw[iu]; rfl,by rw[gH,le]; rfl,fun c hc'=>?_,aC,(t7.eZ ca3).mono (by omega),(s6.trans s7).eZ HN ca3⟩
     rcases m_.mp hc' with z | z
     ·exact he c z
     ·rw[fH.mp z]; exact⟨l7,u7⟩
    ·rintro zs H6 ⟨es,rfl,le,he,c6,t6,s6⟩
     refine⟨X7,_,rfl,c6,fun t ht=>?_⟩
     have ta:t≠a:=t6.ne ht
     have c26:=s6.get ca c2
     have tc:t≠acc:=fun z=>by subst z; rw[ht] at c26; cases c26
     have Wo:=aM ht (HO.tup (es.map V.int))
     have e7:upd H6 t (.tup (es.map V.int)) t=some (.tup (es.map V.int)):=aC
     generalize upd H6 t (.tup (es.map V.int))=H7 at Wo e7 ⊢
     have s27:=s6.trans (SX.of (a:=a) Wo)
     have tri:Vt es:=by
      obtain⟨v1,v2,v3,rfl⟩:=ac8 le
      have h1:=he v1 (by simp)
      have h2:=he v2 (by simp)
      have h3:=he v3 (by simp)
      exact⟨v1,v2,v3,rfl,⟨h1.1,by omega⟩,⟨h2.1,by omega⟩,⟨h3.1,by omega⟩⟩
     refine⟨Wo _ _ c26,bu (by omega),us++[es],by rw[gH,l2]; rfl,fun u hu=>?_,?_,by rw[gH,y2]; rfl,aC,?_,?_⟩
     ·rcases m_.mp hu with z | z
      ·exact u2 u z
      ·rw[fH.mp z]; exact tri
     ·rw[d8 ca,iD,iu]
      refine ak.append (a2.mono (aG.hid s27)) (ak.cons (At.tup (by rw[cG tc,cG ta]; exact e7) (bw es)) ak.nil)
     ·exact((t6.same Wo).eZ ca).mono (by omega)
     ·exact(s2.trans s27).eZ hacc ca
   ·rintro ys H2 ⟨us,l2,u2,a2,y2,c2,t2,s2⟩
    refine⟨acc,ys,rfl,c2,fun l hl=>?_⟩
    have la:l≠a:=t2.ne hl
    have A1:At (hid a (upd H2 l (.tup ys))) (.tuple (us.map dw)) (.ref l):=by
     rw[d8 la]
     have fr:hid a H2 l=none:=by rw[cG la]; exact hl
     exact At.tup aC ((a2.mono fW).mono (aM fr _))
    have t3:Tp (upd H2 l (.tup ys)) a (n+6+9):=t2.eZ la
    have x3:SX a H5 (upd H2 l (.tup ys)):=s2.trans (SX.of (aM hl _))
    generalize upd H2 l (.tup ys)=H3 at *
    try walk_at "rd"
    refine⟨(by decide),fun p5 G5 f5 r5 e5=>gQ.of (t3.same r5) (by omega) (by decide) (by decide) fun y6 G6 l6 u6 t6 s6=>?_⟩
    have n5:=t3.ne f5
    obtain⟨mm,hmm,emm⟩:=jB (ts:=[3,9,15]) l6 u6
    have afg:3<=mm/\mm<=15:=by
     simp only[bU,jH,or_false] at hmm
     rcases hmm with rfl | rfl | rfl <;> decide
    refine Ix.lst (s6.get n5 e5) emm ?_
    refine gQ.of t6 (by omega) (by omega) (by omega) fun v6 H6 l6' u6' t6' s6'=>?_
    refine gQ.of t6' (by omega) (by decide) (by decide) fun v7 H7 l7 u7 t7 s7=>?_
    refine gQ.of t7 (by omega) (by decide) (by decide) fun v8 H8 l8 u8 t8 s8=>?_
    refine gQ.of t8 (by omega) (by decide) (by decide) fun v9 H9 l9 u9 t9 s9=>⟨(by decide),fun z uL hz nq e10=>?_⟩
    have za:z≠a:=t9.ne hz
    have x10:SX a H3 uL:=(SX.of r5).trans (s6.trans (s6'.trans (s7.trans (s8.trans (s9.trans (SX.of nq))))))
    have hsum:cs.sum<=10:=by
     obtain⟨e0,e1,e2,e3,e4,rfl⟩:=Ul lc
     have h0:=hc e0 (by simp)
     have h1:=hc e1 (by simp)
     have h2:=hc e2 (by simp)
     have h3:=hc e3 (by simp)
     have h4:=hc e4 (by simp)
     simp only[GK,List.sum_nil]
     omega
    refine q z ⟨v6,v7,cs,v8,v9,us⟩ uL ⟨by show 0<=v6/\v6<=1000000000000; omega,l7,lc,fun y hy=>(hc y hy).1,by show v7+cs.sum<=12; omega,⟨l8,by show v8<=5; omega⟩,⟨l9,by show v9<=9; omega⟩,l2,u2⟩ ?_ ((t9.same nq).mono (by omega)) (s1.trans (x5.trans (x3.trans x10)))
    exact At.tup (by rw[cG za]; exact e10) (ak.cons (At.int _) (ak.cons (At.int _) (ak.cons ((A2.mono x3).mono x10) (ak.cons (At.int _) (ak.cons (At.int _) (ak.cons (A1.mono x10) ak.nil))))))
noncomputable def Ly:Sp:=fun vs H Q _=>∃(a:Addr) (n:Nat),vs=[.ref a]/\Tp H a n/\n<=100000000/\∀p c H',Ce c->(∀q∈c,q.1<=4/\q.2<=3)->At (hid a H') (Fo c) (.ref p)->Tp H' a (n+20)->SX a H H'->Q (.ref p) H'
theorem vY:bf ["_law_tape_here","_law_many"] ["_law_tape_here"] (aK tE):=(by walk_at "c")
theorem JS (F:jr K "_law_curve" "_law_curve" tE f fd) (B:Bi mg) (bC:Ct P w K mg base k "_law_draw" ["_law_tape_here","_law_many"] pZ):bZ P w K mg base jj (k+1) f fd ["_law_tape_here"] Ly:=by
 refine F.ok vY (by rintro vs H Q E ⟨a,n,rfl,_⟩; rfl) (fun cdv A outer s H vs Q E hr h=>?_)
 obtain⟨a,n,rfl,tp,hn,q⟩:=h
 have ND:=vY.nd
 refine⟨_,(aq (aZ (i:=1) ND rfl (by walk_at "o") (aX aQ (bL (aa ao (aa ao (aa ao (aa (aV bD ao (pf bC hr (aa (pv 0) (aa ao aj)))) aj))))) (pf bC hr (aa (pv 0) (aa ao aj))) (fun _ _=>rfl))) (aH (a_ (pt (b8) B.tuple cg (aa (jY (N':=["_law_k","_law_tape_here"]) (js:=[0]) rfl (d_ (by rfl) B.range (aa (pv 1) aj)) yP.mk1 rfl (by decide) rfl (fun fp s' H'=>(aY (aa (pf bC hr (aa (pv 1) (aa ao aj))) (aa (pf bC hr (aa (pv 1) (aa ao aj))) aj))))) aj))))),?_⟩
 walk_at "rd"
 refine gQ.of tp (by omega) (by decide) (by decide) fun y1 H1 l1 u1 t1 s1=>⟨_,_,rfl,rfl,(by decide),fun p2 H2 f2 r2 e2=>gQ.of (t1.same r2) (by omega) (by decide) (by decide) fun y3 H3 l3 u3 t3 s3=>?_⟩
 have n2:=t1.ne f2
 obtain⟨mm,hmm,emm⟩:=jB (ts:=[1,1,1,2+y1]) l3 u3
 have afg:1<=mm/\mm<=3:=by
  simp only[bU,jH,or_false] at hmm
  rcases hmm with rfl | rfl | rfl | rfl <;> omega
 refine Ix.lst (s3.get n2 e2) emm ?_
 have x3:SX a H H3:=s1.trans ((SX.of r2).trans s3)
 rw[lE]
 walk_at "rd"
 refine CK.of (n:=mm.toNat) (by omega) (by omega) fun acc hacc=>?_
 have ca:acc≠a:=t3.ne hacc
 refine⟨fun i ys H'=>∃c:Cv,c.length=i/\(∀q∈c,(0<=q.1/\q.1<=4)/\0<=q.2/\q.2<=3)/\ak (hid acc (hid a H')) (c.map prD) ys/\ys.length=i/\H' acc=some (.lst ys)/\Tp H' a (n+2+2*i)/\SX a H3 H',⟨[],rfl,fun u h=>by simp at h,ak.nil,rfl,aC,t3.eZ ca,(SX.refl a H3).eZ hacc ca⟩,?_,?_⟩
 ·rintro i ys H4 hi ⟨c,lc,hc,a4,y4,c4,t4,s4⟩
  show RV _ [some _,some (.ref a)] H4 _
  walk_at "rd"
  refine gQ.of t4 (by omega) (by decide) (by decide) fun v1 H5 l5 u5 t5 s5=>gQ.of t5 (by omega) (by decide) (by decide) fun v2 H6 l6 u6 t6 s6=>⟨(by decide),fun t H7 ht s7 e7=>?_⟩
  have YF:=s5.trans s6
  have Wq:=YF.trans (SX.of s7)
  have ta:t≠a:=t6.ne ht
  have c6:=YF.get ca c4
  have tc:t≠acc:=fun z=>by subst z; rw[ht] at c6; cases c6
  refine⟨s7 _ _ c6,bu (by omega),c++[(v1,v2)],by rw[gH,lc]; rfl,fun u hu=>?_,?_,by rw[gH,y4]; rfl,aC,?_,?_⟩
  ·rcases m_.mp hu with z | z
   ·exact hc u z
   ·rw[fH.mp z]; exact⟨⟨l5,by show v1<=4; omega⟩,l6,by show v2<=3; omega⟩
  ·rw[d8 ca,iD,iu]
   refine ak.append (a4.mono (aG.hid Wq)) (ak.cons (At.tup (by rw[cG tc,cG ta]; exact e7) (bw [v1,v2])) ak.nil)
  ·exact((t6.same s7).eZ ca).mono (by omega)
  ·exact(s4.trans Wq).eZ hacc ca
 ·rintro ys H4 ⟨c,lc,hc,a4,y4,c4,t4,s4⟩
  refine⟨acc,ys,rfl,c4,fun l hl=>?_⟩
  have la:l≠a:=t4.ne hl
  have A1:At (hid a (upd H4 l (.tup ys))) (Fo c) (.ref l):=by
   rw[d8 la]
   have fr:hid a H4 l=none:=by rw[cG la]; exact hl
   exact At.tup aC ((a4.mono fW).mono (aM fr _))
  exact q l c _ ⟨fun z=>by rw[z] at lc; simp at lc; omega,by omega,fun q hq=>⟨(hc q hq).1.1,(hc q hq).2.1⟩⟩ (fun q hq=>⟨(hc q hq).1.2,(hc q hq).2.2⟩) A1 ((t4.eZ la).mono (by omega)) (x3.trans (s4.trans (SX.of (aM hl _))))
theorem pC (is:List Int):PyData.hasDict (.list (is.map .int))=false/\PyData.canLay0 (.list (is.map .int))=true/\PyData.depth (.list (is.map .int))<=60:=by
 obtain⟨d1,d2,d3⟩:=pG is
 exact⟨by simpa[PyData.hasDict] using d1,by simpa[PyData.canLay0] using d2,by show PyData.depthAll _+1<=60; rw[d3]; decide⟩
theorem QM (ns:List Int) (h:ns.length<=63):pM (ns.map V.int) (some 2) (some 63)=(ns.drop 2).map V.int:=by
 have e:pM (ns.map V.int) (some ((2:Nat):Int)) (some ((63:Nat):Int))=(ns.drop 2).map V.int:=by
  unfold pM
  rw[HT.vf,HT.vf,bM,List.map_drop]
  by_cases q:2<=ns.length
  ·rw[Nat.min_eq_left q,Mj h,Tg (by rw[wO,bM]; omega)]
  ·rw[Mj (by omega),Tf (by rw[bM]; omega),Tf (by rw[bM]; omega),List.take_nil]
 exact e
theorem vC {ls:List Int} {i:Nat} {j:Int} (e:j=(i:Int)) (h:i<ls.length):Il (ls.map V.int) j=some (.int (ls.getD i 0)):=by
 rw[e]
 exact bz (by rw[fQ,gC,fD h]; rfl)
noncomputable def Ss (K:PySem.W.Frag):Sp:=fun vs H Q _=>∃(p:Addr) (ns:List Int),vs=[.ref p,(.int 2)]/\VH K H p (ns.map V.int)/\ns.length<=63/\∀(r:Addr) (cs:List Int) H',aG H H'->H' r=some (.lst (cs.map V.int))->1<=cs.length->cs.length<=2->Q (.ref r) H'
theorem uw:bf ["_law_script","_law_many","_law_cells","_law_k","_law_cell"] ["_law_script","_law_many"] (aK qe):=(by walk_at "c")
theorem Ho (F:jr K "_law_folded" "_law_folded" qe f fd) (B:Bi mg):bZ P w K mg base jj (k+1) f fd ["_law_script","_law_many"] (Ss K):=by
 refine F.ok uw (by rintro vs H Q E ⟨p,ns,rfl,_⟩; rfl) (fun cdv A outer s H vs Q E hr h=>?_)
 obtain⟨p,ns,rfl,hS,hn,q⟩:=h
 have ND:=uw.nd
 refine⟨_,(aq (aZ (i:=2) ND rfl (by walk_at "o") (pt (QZ) B.list j7 (aa (cZ vd (pv 0) eX (du (pv 1))) aj))) (aq (gb PassesOwn.never rfl (WY (K:=K) rfl B.enumerate (aa (cZ vd (pv 0) (du (pv 1)) (du ao)) aj)) (bH (K:=K) (n:=2) rfl rfl (aD (aF (i:=3) ND rfl (by walk_at "o")) (aD (aF (i:=4) ND rfl (by walk_at "o")) bG))) (aH (cL (aV bD (aX aQ (pv 2) (aV mF (pv 3) (pv 1)) (fun _ _=>rfl)) (aV gK (pv 4) (aV bD (pv 3) ao))) (qj (pv 2) (aV mF (pv 3) (pv 1)) set_list)))) (aH (a_ (aV tV (pv 2) (aV aao (bL (aa ao aj)) (pt (lV) B.int uh (aa (fK (Dp hr.units) (pv 2) (bL aj) (bh _)) aj)))))))),?_⟩
 walk_at "rd"
 refine⟨p,_,rfl,hS.sq,fun p1 f1=>?_⟩
 rw[kY (by decide),<- Aw]
 have s1:=aM f1 (HO.lst ((ns.take (Int.toNat 2)).map V.int))
 have e1:upd H p1 (HO.lst ((ns.take (Int.toNat 2)).map V.int)) p1=some (.lst ((ns.take (Int.toNat 2)).map V.int)):=aC
 generalize upd H p1 (HO.lst ((ns.take (Int.toNat 2)).map V.int))=H1 at s1 e1 ⊢
 refine⟨p1,_,rfl,e1,fun pc fc=>?_⟩
 have s2:=aM fc (HO.lst ((ns.take (Int.toNat 2)).map V.int))
 have e2:upd H1 pc (HO.lst ((ns.take (Int.toNat 2)).map V.int)) pc=some (.lst ((ns.take (Int.toNat 2)).map V.int)):=aC
 generalize upd H1 pc (HO.lst ((ns.take (Int.toNat 2)).map V.int))=H2 at s2 e2 ⊢
 have s02:=s1.trans s2
 have hS2:=hS.same s02
 have zc:H pc=none:=by
  cases e:H pc with
  | none=>rfl
  | some o=>rw[s1 _ _ e] at fc; cases fc
 rw[O6]
 walk_at "rd"
 refine⟨p,_,rfl,hS2.sq,fun p3 f3=>?_⟩
 rw[QM ns hn]
 have s3:=aM f3 (HO.lst ((ns.drop 2).map V.int))
 have e3:upd H2 p3 (HO.lst ((ns.drop 2).map V.int)) p3=some (.lst ((ns.drop 2).map V.int)):=aC
 generalize upd H2 p3 (HO.lst ((ns.drop 2).map V.int))=H3 at s3 e3 ⊢
 have n3:p3≠pc:=fun z=>by rw[z,e2] at f3; cases f3
 refine EK.of e3 (fun i σ H'=>∃(cs:List Int) (o3 o4:Option V),σ=[some (.ref p),some (.int 2),some (.ref pc),o3,o4]/\H' pc=some (.lst (cs.map V.int))/\cs.length=(ns.take (Int.toNat 2)).length/\H' p3=some (.lst ((ns.drop 2).map V.int))/\aG H H') ⟨_,_,_,rfl,s3 _ _ e2,rfl,e3,s02.trans s3⟩ (fun i σ H' _ ⟨_,_,_,_,_,_,z,_⟩=>z) ?_ ?_
 ·rintro i x σ H4 p4 hx ⟨cs,o3,o4,rfl,e4,l4,g4,s4⟩ f4
  obtain⟨hi,rfl⟩:=ints_get hx
  have hl8:cs.length=2:=by
   rw[l4,jG]
   rw[wO] at hi
   exact Nat.min_eq_left (by show 2<=ns.length; omega)
  have aiV:i<63:=by rw[wO] at hi; omega
  refine⟨p4,_,rfl,cB.of aC,rfl,?_⟩
  have s5:=aM f4 (HO.tup [V.int (i:Nat),V.int ((ns.drop 2).getD i 0)])
  generalize upd H4 p4 (HO.tup [V.int (i:Nat),V.int ((ns.drop 2).getD i 0)])=H5 at s5 ⊢
  walk_at "rd"
  refine⟨by decide,?_⟩
  have em:((i:Nat):Int) % 2=((i % 2:Nat):Int):=by omega
  have lt:i % 2<cs.length:=by rw[hl8]; exact Nat.mod_lt _ (by decide)
  refine Ix.lst (s5 _ _ e4) (vC em lt) ?_
  walk_at "rd"
  refine⟨.inr ⟨by omega,by omega⟩,by decide,?_⟩
  refine⟨pc,_,_,i % 2,rfl,rfl,s5 _ _ e4,by rw[em,bM]; exact rN lt,?_⟩
  rw[<- List.map_set]
  exact⟨_,_,_,rfl,aC,by rw[List.length_set]; exact l4,by rw[aR n3]; exact s5 _ _ g4,aG.eZ (s4.trans s5) zc⟩
 ·rintro σ H4 ⟨cs,o3,o4,rfl,e4,l4,g4,s4⟩
  walk_at "rd"
  have lc:cs.length<=2:=by rw[l4,jG]; exact Nat.min_le_left _ _
  refine⟨(by decide),fun p5 H5 f5 s5 e5=>⟨e_ _,fun p6 H6 f6 s6 e6=>?_⟩⟩
  have z:=pC cs
  have YF:=s5.trans s6
  refine⟨.list (cs.map .int),.list [],At.lst (YF _ _ e4) (bw _),At.lst e6 ak.nil,z.1,rfl,z.2.1,rfl,z.2.2,?_⟩
  cases cs with
  | nil=>
   have eq:PyData.eqv (.list (([]:List Int).map .int)) (.list [])=true:=rfl
   rw[eq,aP rfl]
   refine⟨p5,1,_,rfl,rfl,s6 _ _ e5,by decide,by decide,(by show 1*1<=sizeLine; decide),fun p7 f7=>?_⟩
   have s7:=aM f7 (HO.lst [V.int 0])
   refine Dg.of (s7 _ _ (YF _ _ e4)) aC (Um (by show 0+1<=1000; decide)) fun p8 H8 f8 s8 e8=>q p8 [0] H8 (s4.trans (YF.trans (s7.trans s8))) e8 (by decide) (by decide)
  | cons c0 cs=>
   have eq:PyData.eqv (.list ((c0::cs).map .int)) (.list [])=false:=rfl
   rw[eq,bB (by decide)]
   refine⟨p5,0,_,rfl,rfl,s6 _ _ e5,by decide,by decide,(by show 1*0<=sizeLine; decide),fun p7 f7=>?_⟩
   have s7:=aM f7 (HO.lst [])
   refine Dg.of (s7 _ _ (YF _ _ e4)) aC (Um (by rw[bM]; show(c0::cs).length+0<=1000; omega)) fun p8 H8 f8 s8 e8=>?_
   have e8:H8 p8=some (.lst ((c0::cs).map V.int++[])):=e8
   rw[lJ] at e8
   exact q p8 (c0::cs) H8 (s4.trans (YF.trans (s7.trans s8))) e8 (by simp) lc
theorem Uq (x:dB) (c:Cv) (st st':dX) (h:j0 x st=j0 x st'):∀p,aO x c st p=aO x c st' p
 | 0=>by show[_]=[_]; rw[h]
 | p+1=>by rw[fV,fV,Uq x c st st' h p]
theorem jP {x:dB} {c:Cv} {st:dX} {n:Nat} (h:(aO x c st n).length=n) (q:Nat):(aO x c st q).length<=n:=by
 by_cases z:q<=n
 ·have:=rM (x:=x) (cv:=c) (st:=st) z; omega
 ·have:=Nh h (q-n)
  rw[show n+(q-n)=q by omega] at this
  rw[this]; omega
theorem done_one {x:dB} {c:Cv} {st:dX} {n n':Nat} (h:(aO x c st n).length=n) (h':(aO x c st n').length=n'):n=n':=by
 have h1:=jP h n'
 have h2:=jP h' n
 omega
theorem vh {x:dB} {c:Cv} {st:dX} (p i:Nat):∀d,∃r,bT x c st p (i+d)=bT x c st p i++r
 | 0=>⟨[],by simp⟩
 | d+1=>by
  obtain⟨r,hr⟩:=vh (x:=x) (c:=c) (st:=st) p i d
  obtain⟨r',hr'⟩:=Ou (x:=x) (cv:=c) (e:=eO (aO x c st p) p) (p:=p) (es:=bT x c st p (i+d)) (c:=i+d)
  refine⟨r++r',?_⟩
  show yO x c (eO (aO x c st p) p) p (bT x c st p (i+d)) (i+d)=_
  rw[hr',hr,wR]
theorem JL {x:dB} {c:Cv} {st:dX} {p i:Nat} (hp:p<(aO x c st p).length) (hi:i<=qI c (eO (aO x c st p) p)):(bT x c st p i).length<=(aO x c st (p+1)).length:=by
 obtain⟨r,hr⟩:=vh (x:=x) (c:=c) (st:=st) p i (qI c (eO (aO x c st p) p)-i)
 rw[show i+(qI c (eO (aO x c st p) p)-i)=qI c (eO (aO x c st p) p) by omega] at hr
 rw[oA hp,hr,gH]; omega
theorem iy {x:dB} {c:Cv} {st:dX} {bd bd':Option Int} {lim DN:Int} {n p i:Nat} (D:fJ x c st bd lim n) (M:lD x c st bd' DN p i) (h:lim<=DN\/n=1):False:=by
 have h1:(bT x c st p (i+1)).length=(bT x c st p i).length+1:=by rw[jL,bB M.hk,gH]; rfl
 have h2:=JL M.hp (show i+1<=_ from M.hc)
 have h3:=jP D.hn (p+1)
 have h4:=oZ (x:=x) (cv:=c) (st:=st) (p:=p) (c:=i)
 have h5:=vp (x:=x) (cv:=c) (st:=st) p
 have h6:=M.hl
 have h7:=D.hl
 omega
variable {aJ aL:Addr}
variable {aJ aL:Addr}
noncomputable def vP (CM CW:Addr):Sp:=fun vs H Q E=>∃(v u cv:V) (x:dB) (st:dX) (c:Cv) (bd lim:Int),vs=[v,u,cv,.int bd,.int lim]/\At H (jn x) v/\At H (jk st) u/\At H (Fo c) cv/\oW x/\Vw x/\jo st/\Ce c/\0<=lim/\lim<=900 /\
 (23<cF c (c.map (·.1))->∀H',aG H H'->E (.ref CW) none H') /\
 (cF c (c.map (·.1))<=23->∀n,fJ x c st (some bd) lim n->∀p l ys H',aG H H'->H l=none->H' p=some (.tup [.str "kept",.ref l])->H' l=some (.lst ys)->ak H' ((aO x c st n).map iY) ys->Q (.ref p) H') /\
 (cF c (c.map (·.1))<=23->∀p cc,lY x c st (some bd) lim p cc->∀q r H',aG H H'->H r=none->H' q=some (.tup [.str "broken",.ref r])->H' r=some (.lst ((c7 (bT x c st p cc) (bT x c st p cc).length p++[(cc:Int)]).map V.int))->Q (.ref q) H') /\
 (cF c (c.map (·.1))<=23->∀p cc,lD x c st (some bd) lim p cc->∀H',aG H H'->E (.ref CM) none H')
theorem Ah:bf ["post","stand","curve","bound","limit","entries","load"] ["post","stand","curve","bound","limit"] (aK wu):=(by walk_at "c")
theorem Qh {T:Addr} {tk:Tok} (F:uX K "opened" "opened" wu f fd T 300 tk) (O:Co K mg) (lW:Vz P w K mg base k "walked" ["post","stand","curve","bound","limit"] (vO aJ aL)) :
  bZ P w K mg base (nu P w) (k+1) f fd ["post","stand","curve","bound","limit"] (vP aJ aL):=by
 refine F.okE Ah (by rintro vs H Q E ⟨v,u,cv,x,st,c,bd,lim,rfl,_⟩; rfl) (fun cdv A outer s H vs Q E QG hr h=>?_)
 obtain⟨v,u,cv,x,st,c,bd,lim,rfl,a1,a2,a3,hx,hn,hs,hv,hl1,hl2,qW,qD,qB,qM⟩:=h
 have ND:=Ah.nd
 refine⟨_,(aq (cL (pfe lW hr (aa (pv 0) (aa (pv 1) (aa (pv 2) (aa (pv 3) (aa (pv 4) aj)))))) (bH (K:=K) (n:=2) rfl rfl (aD (aF (i:=5) ND rfl (by walk_at "o")) (aD (aF (i:=6) ND rfl (by walk_at "o")) bG)))) (aH (a_ (eE (bc Dn (pv 6) cW (bh _)) (aY (aa (tR O.KEPT) (aa (pv 5) aj))) (aY (aa (tR O.BROKEN) (aa (pv 6) aj))))))),?_⟩
 walk_at "rd"
 refine⟨v,u,cv,x,st,c,some bd,lim,rfl,a1,a2,a3,hx,hn,hs,hv,hl1,hl2,fun h H' s' H3 s3=>qW h H3 (s3 s'),fun h n D v' H' s' ⟨p,l,ys,e1,e2,e3,e4,e5⟩=>?_,fun h p cc Bk v' r H' s' f' e' ⟨p',l,ys,e1,e2,e3,e4,e5⟩=>?_,fun h p cc M H' s' H3 s3=>qM h p cc M H3 (s3 s')⟩
 ·subst e1
  refine⟨p,_,rfl,cB.of e2,rfl,?_⟩
  walk_at "rd"
  refine⟨trivial,?_⟩
  rw[aP (by simp)]
  refine⟨(by decide),fun p2 H2 f2 s2 e6=>?_⟩
  exact qD h n D p2 l ys H2 (s'.trans s2) e3 e6 (s2 _ _ e4) (e5.mono s2)
 ·subst e1
  refine⟨p',_,rfl,cB.of e2,rfl,?_⟩
  walk_at "rd"
  refine⟨trivial,?_⟩
  rw[bB (by simp)]
  refine⟨(by decide),fun p2 H2 f2 s2 e6=>?_⟩
  exact qB h p cc Bk p2 r H2 (s'.trans s2) f' e6 (s2 _ _ e')
noncomputable def dN (es:List En):List Int:=es.map fun e=>e.st.w
noncomputable def mW (es:List En):Int:=match dN es with
 | []=>0
 | b::r=>fO b r
theorem Ug {es:List En} (h:es≠[]):mW es∈dN es/\∀y∈dN es,y<=mW es:=by
 unfold mW
 cases e:dN es with
 | nil=>exact absurd (Mt.mp e) h
 | cons b r=>exact⟨(vm r b).2,(vm r b).1⟩
theorem yg:∀{ns:List Int} {i:Int},i∈ns->∃j,tZ ns i j
 | n::ns,i,h=>by
  by_cases z:n=i
  ·exact⟨0,by rw[z]; rfl,fun m hm=>by omega⟩
  ·obtain⟨j,h1,h2⟩:=yg (ns:=ns) (i:=i) (by rcases bU.mp h with q | q; exact absurd q.symm z; exact q)
   refine⟨j+1,by simpa using h1,fun m hm=>?_⟩
   cases m with
   | zero=>simpa using z
   | succ m=>simpa using h2 m (by omega)
noncomputable def Lp (CM CW:Addr):Sp:=fun vs H Q E=>∃(v u cv:V) (x:dB) (st:dX) (c:Cv) (lim:Int),vs=[v,u,cv,.int lim]/\At H (jn x) v/\At H (jk st) u/\At H (Fo c) cv/\oW x/\Vw x/\jo st/\Ce c/\0<=lim/\lim<=900 /\
 (23<cF c (c.map (·.1))->∀H',aG H H'->E (.ref CW) none H') /\
 (cF c (c.map (·.1))<=23->∀n,fJ x c st none lim n->fJ x c st (some (mW (aO x c st n))) lim n->∀j q r H',tZ (dN (aO x c st n)) (mW (aO x c st n)) j->aG H H'->H r=none->H' q=some (.tup [.int (mW (aO x c st n)),.ref r])->H' r=some (.lst ((c7 (aO x c st n) (aO x c st n).length j).map V.int))->Q (.ref q) H') /\
 (cF c (c.map (·.1))<=23->∀n p cc,fJ x c st none lim n->lY x c st (some (mW (aO x c st n))) lim p cc->∀q r H',aG H H'->H r=none->H' q=some (.tup [.non,.ref r])->H' r=some (.lst ((c7 (bT x c st p cc) (bT x c st p cc).length p++[(cc:Int)]).map V.int))->Q (.ref q) H') /\
 (cF c (c.map (·.1))<=23->∀p cc,lD x c st none lim p cc->∀H',aG H H'->E (.ref CM) none H')
theorem nJ:bf ["post","stand","curve","limit","entries","waits","bound","how","shown"] ["post","stand","curve","limit"] (aK kj):=(by walk_at "c")
theorem xr {T:Addr} {tk:Tok} (F:uX K "least_bound" "least_bound" kj f fd T 300 tk) (B:Bi mg) (O:Co K mg) (Vl:VM P w K mg base k "led" ["post","stand","curve","limit"] 300 (YC aJ aL)) (lX:VM P w K mg base k "opened" ["post","stand","curve","bound","limit"] 300 (vP aJ aL)) (jC:Ct P w K mg base k "load_to" ["entries","place"] vQ) :
  bZ P w K mg base (nu P w) (k+1) f fd ["post","stand","curve","limit"] (Lp aJ aL):=by
 refine F.okE nJ (by rintro vs H Q E ⟨v,u,cv,x,st,c,lim,rfl,_⟩; rfl) (fun cdv A outer s H vs Q E QG hr h=>?_)
 obtain⟨v,u,cv,x,st,c,lim,rfl,a1,a2,a3,hx,hn,hs,hv,hl1,hl2,qW,qD,qB,qM⟩:=h
 have ND:=nJ.nd
 refine⟨_,(aq (aZ (i:=4) ND rfl (by walk_at "o") (pfe Vl.all hr (aa (pv 0) (aa (pv 1) (aa (pv 2) (aa (pv 3) aj)))))) (aq (vg (i:=5) ND rfl (by walk_at "o") (N':=["entry"]) (js:=[]) rfl (jK (K:=K) rfl (pv 4)) yP.mk0 rfl (by decide) rfl (fun fp s' H'=>(aX aQ (aX aQ (pv 0) ao (fun _ _=>rfl)) ao (fun _ _=>rfl)))) (aq (aZ (i:=6) ND rfl (by walk_at "o") (pb (pI rfl) B.max iH (aa (pv 5) aj))) (aq (cL (pfe lX.all hr (aa (pv 0) (aa (pv 1) (aa (pv 2) (aa (pv 6) (aa (pv 3) aj)))))) (bH (K:=K) (n:=2) rfl rfl (aD (aF (i:=7) ND rfl (by walk_at "o")) (aD (aF (i:=8) ND rfl (by walk_at "o")) bG)))) (aq (dC (bc jg (pv 7) (tR O.BROKEN) (bh _)) (aH (a_ (aY (aa cW (aa (pv 8) aj))))) bR) (aH (a_ (aY (aa (pv 6) (aa (pf jC hr (aa (pv 4) (aa (gJ (K:=K) rfl PySem.F.plainAttrs_list PySem.F.slot_list_index PySem.F.type_list_index xM (pv 5) (aa (pv 6) aj)) aj))) aj)))))))))),?_⟩
 walk_at "rd"
 refine⟨v,u,cv,x,st,c,lim,rfl,a1,a2,a3,hx,hn,hs,hv,hl1,hl2,fun h H' s' H3 s3=>qW h H3 (s3 s'),fun h n D l ys H1 s1 f1 e1 A1=>?_,fun h p cc M H' s' H3 s3=>qM h p cc M H3 (s3 s')⟩
 have hyl:ys.length=n:=by rw[A1.length,bM,D.hn]
 have hn9:n<=900:=by have:=D.hl; omega
 have hne:aO x c st n≠[]:=fun z=>by have:=vp (x:=x) (cv:=c) (st:=st) n; rw[z] at this; simp at this
 show ir _ _ _ _ _ _
 refine Ef (es:=(dN (aO x c st n)).map PyData.int) (fun R hR=>by walk_at "rd"; exact hR) e1 (by rw[bM,dN,bM,D.hn,hyl]) (jt (bu (by rw[bM,dN,bM,D.hn]; omega))) (cX.mpr fun d hd=>by obtain⟨i,_,rfl⟩:=iK.mp hd; rfl) (fun i y e H2 hi he s2 R hR=>?_) (fun acc zs H2 s2 f2 e2 A2=>?_)
 ·have hil:i<(aO x c st n).length:=by rw[D.hn,<- hyl]; exact(fj.mp hi).1
  obtain⟨y',y1,y2⟩:=jy A1 hil
  rw[hi] at y1
  cases y1
  obtain⟨ea,v1,p2,v3,v4,rfl,g1,g2,_,_⟩:=iG y2
  obtain⟨sa,sb,sc,rfl,k1,_⟩:=fC g2
  walk_at "rd"
  refine Ix.tup (s2 _ _ g1) (v:=.ref sa) rfl (Ix.tup (s2 _ _ k1) (v:=.int (eO (aO x c st n) i).st.w) rfl (hR _ _ (aG.refl _) ?_))
  have:e=.int (eO (aO x c st n) i).st.w:=by
   rw[fQ,dN,fQ,fD hil] at he
   cases he
   unfold eO
   rw[gC,fD hil]
   rfl
  rw[this]
  exact At.int _
 have A2':=A2
 cases cu A2
 have hm:∃b r,dN (aO x c st n)=b::r/\fO b r=mW (aO x c st n):=by
  unfold mW
  cases e:dN (aO x c st n) with
  | nil=>exact absurd (Mt.mp e) hne
  | cons b r=>exact⟨b,r,rfl,rfl⟩
 obtain⟨b,r,h1,h2⟩:=hm
 refine⟨acc,b,r,rfl,by rw[e2,h1]; rfl,?_⟩
 rw[h2]
 have s12:=s1.trans s2
 refine⟨v,u,cv,x,st,c,mW (aO x c st n),lim,rfl,a1.mono s12,a2.mono s12,a3.mono s12,hx,hn,hs,hv,hl1,hl2,fun h'=>by omega,fun _ n' D' p l' ys' H3 s3 f3 e3 e4 A4=>?_,fun _ p cc Bk q r' H3 s3 f3 e3 e4=>?_,fun _ p cc M=>absurd (iy D M (.inl (pJ _))) id⟩
 ·have hnn:n'=n:=done_one D'.hn D.hn
  subst hnn
  refine⟨p,_,rfl,cB.of e3,rfl,?_⟩
  walk_at "rd"
  rw[bB (by decide)]
  obtain⟨j,hj⟩:=yg (Ug hne).1
  have hjl:j<(aO x c st n').length:=by
   have:=(fj.mp hj.1).1
   rw[dN,bM] at this
   exact this
  have e2':=s3 _ _ e2
  refine⟨.inl ⟨rfl,_,dh.of e2'⟩,acc,_,_,j,rfl,e2',rfl,(by rw[dN,bM,D.hn]; omega),hj,?_⟩
  refine⟨l,ys,aO x c st n',j,rfl,s3 _ _ (s2 _ _ e1),A1.mono (s2.trans s3),hjl,(by rw[D.hn]; omega),tX n',fun r2 H4 f4 s4 e5=>⟨(by decide),fun p3 H5 f5 s5 e6=>?_⟩⟩
  have jA:=s12.trans s3
  exact qD h n' D D' j p3 r2 H5 hj (jA.trans (s4.trans s5)) (aG.free jA f4) e6 (s5 _ _ e5)
 ·refine⟨q,_,rfl,cB.of e3,rfl,?_⟩
  walk_at "rd"
  rw[aP (by decide)]
  refine⟨(by decide),fun p3 H5 f5 s5 e6=>?_⟩
  exact qB h n p cc D Bk p3 r' H5 (s12.trans (s3.trans s5)) (aG.free s12 f3) e6 (s5 _ _ e4)
section
variable {x:dB} {c:Cv} {st st':dX} {bd:Option Int} {lim:Int}
theorem rR {n p cc:Nat} {DN:Int} (D:fJ x c st bd lim n) (Bk:lY x c st bd DN p cc):False:=by
 have h1:=jP D.hn p
 have h2:=D.hb p cc (.inl (by have:=Bk.hp; omega)) Bk.hp Bk.hc
 rw[Bk.hk] at h2
 cases h2
theorem Oj {p cc p' Fp:Nat} {DN:Int} (b1:lY x c st bd lim p cc) (b2:lY x c st bd DN p' Fp):p=p'/\cc=Fp:=by
 by_cases h1:p<p'\/p=p'/\cc<Fp
 ·have:=b2.hb p cc h1 b1.hp b1.hc; rw[b1.hk] at this; cases this
 ·by_cases h2:p'<p\/p'=p/\Fp<cc
  ·have:=b1.hb p' Fp h2 b2.hp b2.hc; rw[b2.hk] at this; cases this
  ·omega
theorem TY {p i i':Nat} (h:i<=i'):(bT x c st p i).length<=(bT x c st p i').length:=by
 obtain⟨r,hr⟩:=vh (x:=x) (c:=c) (st:=st) p i (i'-i)
 rw[show i+(i'-i)=i' by omega] at hr
 rw[hr,gH]; omega
theorem Ih {p cc p' Fp:Nat} {DN:Int} (b1:lY x c st bd lim p cc) (M:lD x c st bd DN p' Fp) (hl:lim<=DN):False:=by
 by_cases h1:p<p'\/p=p'/\cc<Fp+1
 ·have:=M.hb p cc h1 b1.hp b1.hc; rw[b1.hk] at this; cases this
 ·have g1:(bT x c st p' (Fp+1)).length=(bT x c st p' Fp).length+1:=by rw[jL,bB M.hk,gH]; rfl
  have g2:=b1.hl
  have g3:=M.hl
  have g4:1<=(bT x c st p' Fp).length:=by have:=oZ (x:=x) (cv:=c) (st:=st) (p:=p') (c:=Fp); have:=vp (x:=x) (cv:=c) (st:=st) p'; omega
  have g5:(bT x c st p' (Fp+1)).length<=(bT x c st p cc).length:=by
   by_cases z:p'=p
   ·subst z; exact TY (by omega)
   ·have k1:=JL M.hp (show Fp+1<=_ from M.hc)
    have k2:=rM (x:=x) (cv:=c) (st:=st) (show p'+1<=p by omega)
    have k3:=oZ (x:=x) (cv:=c) (st:=st) (p:=p) (c:=cc)
    omega
  omega
end
noncomputable def BK (es:List En):PyData:=.list (es.map iY)
noncomputable def xX (ns:List Int):PyData:=.list (ns.map .int)
noncomputable def K7 (x:dB) (c:Cv) (st:dX) (p cc:Nat):List Int:=c7 (bT x c st p cc) (bT x c st p cc).length p++[(cc:Int)]
inductive Ft (x:dB) (c:Cv) (st:dX) (bd lim:Int):Nat->PyData->Prop
 | Xr (n:Nat):fJ x c st none lim n->Ft x c st bd lim 0 (BK (aO x c st n))
 | Xq (p cc:Nat):lD x c st none lim p cc->Ft x c st bd lim 0 (.str "many")
 | opD (n:Nat):fJ x c st (some bd) lim n->Ft x c st bd lim 1 (.tuple [.str "kept",BK (aO x c st n)])
 | opB (p cc:Nat):lY x c st (some bd) lim p cc->Ft x c st bd lim 1 (.tuple [.str "broken",xX (K7 x c st p cc)])
 | opM (p cc:Nat):lD x c st (some bd) lim p cc->Ft x c st bd lim 1 (.str "many")
 | lbD (n j:Nat):fJ x c st none lim n->fJ x c st (some (mW (aO x c st n))) lim n->tZ (dN (aO x c st n)) (mW (aO x c st n)) j->Ft x c st bd lim 2 (.tuple [.int (mW (aO x c st n)),xX (c7 (aO x c st n) (aO x c st n).length j)])
 | lbB (n p cc:Nat):fJ x c st none lim n->lY x c st (some (mW (aO x c st n))) lim p cc->Ft x c st bd lim 2 (.tuple [.none,xX (K7 x c st p cc)])
 | lbM (p cc:Nat):lD x c st none lim p cc->Ft x c st bd lim 2 (.str "many")
theorem QJ {ns:List Int} {i:Int} {j j':Nat} (h:tZ ns i j) (h':tZ ns i j'):j=j':=by
 by_cases a:j<j'
 ·exact absurd h.1 (h'.2 j a)
 ·by_cases b:j'<j
  ·exact absurd h'.1 (h.2 j' b)
  ·omega
theorem Ft.one {x:dB} {c:Cv} {st:dX} {bd lim:Int} {w:Nat} {d d':PyData} (h:Ft x c st bd lim w d) (h':Ft x c st bd lim w d'):d=d':=by
 have r:=pJ lim
 cases h with
 | Xr n D=>
  cases h' with
  | Xr n' D'=>rw[done_one D.hn D'.hn]
  | Xq p cc M=>exact absurd (iy D M (.inl r)) id
 | Xq p cc M=>
  cases h' with
  | Xr n' D'=>exact absurd (iy D' M (.inl r)) id
  | Xq p cc M=>rfl
 | opD n D=>
  cases h' with
  | opD n' D'=>rw[done_one D.hn D'.hn]
  | opB p cc Bk=>exact absurd (rR D Bk) id
  | opM p cc M=>exact absurd (iy D M (.inl r)) id
 | opB p cc Bk=>
  cases h' with
  | opD n' D'=>exact absurd (rR D' Bk) id
  | opB p' Fp Bk'=>obtain⟨rfl,rfl⟩:=Oj Bk Bk'; rfl
  | opM p' Fp M=>exact absurd (Ih Bk M r) id
 | opM p cc M=>
  cases h' with
  | opD n' D'=>exact absurd (iy D' M (.inl r)) id
  | opB p' Fp Bk'=>exact absurd (Ih Bk' M r) id
  | opM p' Fp M=>rfl
 | lbD n j D D2 hj=>
  cases h' with
  | lbD n' j' D' D2' hj'=>
   cases done_one D.hn D'.hn
   cases QJ hj hj'
   rfl
  | lbB n' p cc D' Bk=>cases done_one D.hn D'.hn; exact absurd (rR D2 Bk) id
  | lbM p cc M=>exact absurd (iy D M (.inl r)) id
 | lbB n p cc D Bk=>
  cases h' with
  | lbD n' j' D' D2' hj'=>cases done_one D.hn D'.hn; exact absurd (rR D2' Bk) id
  | lbB n' p cc D' Bk'=>
   cases done_one D.hn D'.hn
   obtain⟨rfl,rfl⟩:=Oj Bk Bk'; rfl
  | lbM p cc M=>exact absurd (iy D M (.inl r)) id
 | lbM p cc M=>
  cases h' with
  | lbD n' j' D' D2' hj'=>exact absurd (iy D' M (.inl r)) id
  | lbB n' p cc D' Bk'=>exact absurd (iy D' M (.inl r)) id
  | lbM p cc M=>rfl
theorem SD.Ux {n:Nat} {ns:List Int} (h:ns.length<=1000):SD (n+2) (xX ns):=SD.lst (by rw[bM]; exact h) fun e he=>by
 obtain⟨i,_,rfl⟩:=iK.mp he
 exact SD.int i
theorem Ft.sd {x:dB} {c:Cv} {st:dX} {bd lim:Int} {w:Nat} {d:PyData} (hx:oW x) (hv:Ce c) (hs:jo st) (hl:lim<=900) (a:Ft x c st bd lim w d):SD 7 d:=by
 have big:∀{n:Nat} {b:Option Int},fJ x c st b lim n->n<=900:=fun D=>by have:=D.hl; omega
 have two:∀{a b:PyData},SD 6 a->SD 6 b->SD 7 (.tuple [a,b]):=fun ha hb=>SD.tup (by show 2<=1000; decide) fun e he=>by
  rcases bU.mp he with rfl | he
  ·exact ha
  ·rcases bU.mp he with rfl | he
   ·exact hb
   ·cases he
 have ents:∀{n:Nat} {b:Option Int},fJ x c st b lim n->SD 6 (BK (aO x c st n)):=fun {n b} D=>SD.ents (n:=0) hv (by rw[D.hn]; have:=big D; omega) (mJ hx hv hs n)
 have brk:∀{p cc:Nat} {b:Option Int},lY x c st b lim p cc->SD 6 (xX (K7 x c st p cc)):=fun {p cc b} Bk=>SD.Ux (n:=4) (by
  have h1:=Bk.hl
  have h2:=oh (xj Bk.hp (c:=cc)) (bT x c st p cc).length p
  unfold K7
  rw[gH]
  show _+1<=_
  omega)
 cases a with
 | Xr n D=>exact SD.ents (n:=1) hv (by rw[D.hn]; have:=big D; omega) (mJ hx hv hs n)
 | Xq p cc M=>exact SD.str (by decide +kernel)
 | opD n D=>exact two (SD.str (by decide +kernel)) (ents D)
 | opB p cc Bk=>exact two (SD.str (by decide +kernel)) (brk Bk)
 | opM p cc M=>exact SD.str (by decide +kernel)
 | lbD n j D D2 hj=>exact two (SD.int _) (SD.Ux (n:=4) (by have h1:=oh (tX (x:=x) (cv:=c) (st:=st) n) (aO x c st n).length j; have h2:=big D; rw[D.hn] at h1 ⊢; omega))
 | lbB n p cc D Bk=>exact two SD.none (brk Bk)
 | lbM p cc M=>exact SD.str (by decide +kernel)
variable {aJ aL:Addr}
theorem N6 {m:Nat}:∀{ls:List (List fP)},(∀l∈ls,l.length<=m)->ls.flatten.length<=ls.length*m
 | [],_=>by simp
 | l::ls,h=>by
  have h1:=h l (by simp)
  have h2:=N6 (ls:=ls) fun l' hl'=>h l' (by simp[hl'])
  rw[G_,gH,jF,Nat.succ_mul]
  omega
theorem aaf {x:dB} (h:Rb x):Vw x:=⟨by
 have h1:=N6 (m:=4) (ls:=x.eN) fun l hl=>(h.r l hl).hi
 have h2:=h.n
 have h3:x.eN.length*4<=3*4:=Nat.mul_le_mul_right 4 h2
 omega,fun r hr=>by
 obtain⟨l,hl,hr'⟩:=List.mem_flatten.mp hr
 exact((h.r l hl).g r hr').is⟩
theorem Uc {c:Cv} {m:Int} (hv:Ce c) (h:∀q∈c,q.2+q.1<=m):cF c (c.map (·.1))<=m:=by
 obtain⟨⟨i,p,l,e1,e2,e⟩,_⟩:=DG hv.ne (show(c.map (·.1)).length=c.length by rw[bM])
 rw[fQ,e1] at e2
 cases e2
 have:p.2+p.1<=m:=h p (je e1)
 rw[e]; exact this
structure ZM (K:PySem.W.Frag) (mg:Str->Option Value) (cH dG dH cP cO cN dF cM aJ aL:Addr):Prop where
 Rh:mg "HandError" = some (.ref cH)
 abo:mg "Beyond" = some (.ref dG)
 abp:mg "BadAsk" = some (.ref dH)
 Yk:mg "BadLoad" = some (.ref cP)
 Yj:mg "BadText" = some (.ref cO)
 Yi:mg "BadYard" = some (.ref cN)
 abj:mg "NoName" = some (.ref dF)
 X8:mg "TooLong" = some (.ref cM)
 EY:mg "TooMany" = some (.ref aJ)
 Ez:mg "TooWide" = some (.ref aL)
 yj:PySem.W.exmOne K (.ref aJ) (.ref cH)=some true
 aa7:PySem.W.exmOne K (.ref aL) (.ref cH)=some true
 gO:VL K aJ
 gM:VL K aL
 mR:(PySem.W.clsIn K aJ).isSome=true
 mQ:(PySem.W.clsIn K aL).isSome=true
 aaS:PySem.W.kitOne K (.ref aJ) (.ref aJ)=some true
 aaR:PySem.W.kitOne K (.ref aJ) (.ref aL)=some false
 ae4:PySem.W.kitOne K (.ref aL) (.ref aJ)=some false
 ae3:PySem.W.kitOne K (.ref aL) (.ref aL)=some true
 v_m:PySem.W.kitOne K (.ref aJ) (.type "ValueError")=some true
 v_w:PySem.W.kitOne K (.ref aL) (.type "ValueError")=some true
 n_m:PySem.W.kitAny K (.ref aJ) ([dH,cP,cO,cN,dG,dF,cM].map Value.ref)=some false
 n_w:PySem.W.kitAny K (.ref aL) ([dH,cP,cO,cN,dG,dF,cM].map Value.ref)=some false
variable {cH dG dH cP cO cN dF cM aJ aL:Addr}
noncomputable def LC (CM CW:Addr):Sp:=fun vs H Q _=>∃(a D:Addr),vs=[.ref a]/\Rg H a (.ref D)/\(D=CM\/D=CW)/\(D=CM->∀H',aG H H'->Q (.str "many") H')/\(D=CW->∀H',aG H H'->Q (.str "wide") H')
theorem vZ:bf ["_law_caught","_law_kinds"] ["_law_caught"] (aK tG):=(by walk_at "c")
theorem JT (F:jr K "_law_class" "_law_class" tG f fd) (B:Bi mg) (Z:ZM K mg cH dG dH cP cO cN dF cM aJ aL) :
  bZ P w K mg base jj (k+1) f fd ["_law_caught"] (LC aJ aL):=by
 refine F.ok vZ (by rintro vs H Q E ⟨a,D,rfl,_⟩; rfl) (fun cdv A outer s H vs Q E hr h=>?_)
 obtain⟨a,D,rfl,hX,hD,qM,qW⟩:=h
 have ND:=vZ.nd
 refine⟨_,(aq (aZ (i:=1) ND rfl (by walk_at "o") (bL (aa (pb (DX (K:=K) rfl) B.isinstance bK (aa (pv 0) (aa (gD (v:=.ref aL) rfl Z.Ez rfl) aj))) (aa (pb (DX (K:=K) rfl) B.isinstance bK (aa (pv 0) (aa (gD (v:=.ref aJ) rfl Z.EY rfl) aj))) aj)))) (aq (dC (mC (pb (Uw (K:=K) rfl) B.isinstance bK (aa (pv 0) (aa (aY (aa (gD (v:=.ref dH) rfl Z.abp rfl) (aa (gD (v:=.ref cP) rfl Z.Yk rfl) (aa (gD (v:=.ref cO) rfl Z.Yj rfl) (aa (gD (v:=.ref cN) rfl Z.Yi rfl) (aa (gD (v:=.ref dG) rfl Z.abo rfl) (aa (gD (v:=.ref dF) rfl Z.abj rfl) (aa (gD (v:=.ref cM) rfl Z.X8 rfl) aj)))))))) aj)))) (aH (a_ cA)) bR) (aq (dC (PW.pt (Hf (bc M3 (gJ (K:=K) rfl PySem.F.plainAttrs_list PySem.F.slot_list_count PySem.F.type_list_count J0 (pv 1) (aa rD aj)) ao (bh _)) (wW (JC (mC (pb (DX (K:=K) rfl) B.isinstance bK (aa (pv 0) (aa (pty (by rfl) B.ValueError zT) aj)))))))) (aH (a_ cA)) bR) (aH (a_ (aX aQ (bL (aa cA (aa cA aj))) (gJ (K:=K) rfl PySem.F.plainAttrs_list PySem.F.slot_list_index PySem.F.type_list_index JZ (pv 1) (aa rD aj)) (fun _ _=>rfl))))))),?_⟩
 walk_at "rd"
 have mono:∀{H':Hp},aG H H'->Rg H' a (.ref D):=fun {H'} s'=>by obtain⟨T,e⟩:=hX; exact⟨T,s' _ _ e⟩
 have R:∀(C u:_),RelV (.ref C) u->u=Value.ref C:=fun C u z=>z
 have RT:∀u,RelV (V.ty "ValueError") u->u=Value.type "ValueError" := fun u z=>z
 rcases hD with rfl | rfl
 ·refine⟨a,_,_,_,_,rfl,hX,Z.gO,Z.mR,rfl,R _,Z.aaR,a,_,_,_,_,rfl,hX,Z.gO,Z.mR,rfl,R _,Z.aaS,(by decide),fun p H1 f1 s1 e1=>⟨(by decide),fun p2 H2 f2 s2 e2=>⟨a,_,p2,[dH,cP,cO,cN,dG,dF,cM],_,rfl,mono (s1.trans s2),Z.gO,Z.mR,e2,Z.n_m,?_⟩⟩⟩
  rw[bB (by decide)]
  have e1':=s2 _ _ e1
  refine⟨.inl ⟨rfl,_,dh.of e1'⟩,p,[false,true],rfl,e1',rfl,rfl,_,rfl,?_⟩
  rw[bB (by show ¬((!decide (V.int ((1:Nat):Int)=V.int 1))=true); decide)]
  refine⟨a,_,_,_,_,rfl,mono (s1.trans s2),Z.gO,Z.mR,rfl,RT,Z.v_m,?_⟩
  rw[bB (by decide)]
  refine⟨(by decide),fun p3 H3 f3 s3 e3=>?_⟩
  have Va:=s3 _ _ e1'
  refine⟨.inl ⟨rfl,_,dh.of Va⟩,p,[false,true],1,rfl,Va,rfl,(by decide),⟨rfl,fun m hm=>?_⟩,?_⟩
  ·have:m=0:=by omega
   subst this; simp
  ·exact Ix.lst e3 (v:=.str "many") rfl (qM rfl H3 (s1.trans (s2.trans s3)))
 ·refine⟨a,_,_,_,_,rfl,hX,Z.gM,Z.mQ,rfl,R _,Z.ae3,a,_,_,_,_,rfl,hX,Z.gM,Z.mQ,rfl,R _,Z.ae4,(by decide),fun p H1 f1 s1 e1=>⟨(by decide),fun p2 H2 f2 s2 e2=>⟨a,_,p2,[dH,cP,cO,cN,dG,dF,cM],_,rfl,mono (s1.trans s2),Z.gM,Z.mQ,e2,Z.n_w,?_⟩⟩⟩
  rw[bB (by decide)]
  have e1':=s2 _ _ e1
  refine⟨.inl ⟨rfl,_,dh.of e1'⟩,p,[true,false],rfl,e1',rfl,rfl,_,rfl,?_⟩
  rw[bB (by show ¬((!decide (V.int ((1:Nat):Int)=V.int 1))=true); decide)]
  refine⟨a,_,_,_,_,rfl,mono (s1.trans s2),Z.gM,Z.mQ,rfl,RT,Z.v_w,?_⟩
  rw[bB (by decide)]
  refine⟨(by decide),fun p3 H3 f3 s3 e3=>?_⟩
  have Va:=s3 _ _ e1'
  refine⟨.inl ⟨rfl,_,dh.of Va⟩,p,[true,false],0,rfl,Va,rfl,(by decide),⟨rfl,fun m hm=>?_⟩,?_⟩
  ·omega
  ·exact Ix.lst e3 (v:=.str "wide") rfl (qW rfl H3 (s1.trans (s2.trans s3)))
end
theorem ye:∀(cs:List Int) (g:Int),(bj cs g).1.sum=cs.sum-g+(bj cs g).2
 | [],g=>by simp[bj]; omega
 | c::cs,g=>by
  have:=ye cs g
  rw[bj,GK,GK,this]
  simp only
  generalize (if(bj cs g).2<c then(bj cs g).2 else c)=z
  omega
theorem Bw:∀(cs:List Int) (g:Int),(∀c∈cs,0<=c)->0<=g->(∀c∈(bj cs g).1,0<=c)/\0<=(bj cs g).2/\((bj cs g).2=0\/(bj cs g).1.sum=0)
 | [],g,_,hg=>⟨by simp[bj],by simpa[bj] using hg,.inr (by simp[bj])⟩
 | c::cs,g,h,hg=>by
  obtain⟨h1,h2,h3⟩:=Bw cs g (fun y hy=>h y (jx _ hy)) hg
  have hc:=h c jT
  rw[bj]
  simp only
  generalize hG:(bj cs g).2=G at *
  refine⟨fun y hy=>?_,?_,?_⟩
  ·rcases bU.mp hy with z | z
   ·rw[z]; split <;> omega
   ·exact h1 y z
  ·split <;> omega
  ·rw[GK]
   split <;> omega
structure Wth (x:dB) (st n:dX) (ch:Int):Prop where
 w:n.w=st.w
 s:n.s=st.s
 u:n.us=st.us
 r:0<=n.r
 c:n.cs.length=5
 cn:∀y∈n.cs,0<=y
 sm:n.r+n.cs.sum=st.r+st.cs.sum+ch
 t:n.t=if ch=0 then st.t else if 0<ch then x.u else x.d
theorem vI {x:dB} {st:dX} {ch:Int} (ha:x.a<=4) (hr:0<=st.r) (hl:st.cs.length=5) (hc:∀y∈st.cs,0<=y) (hz:0<=st.r+st.cs.sum+ch):Wth x st (dM x st ch) ch:=by
 by_cases c1:ch=0
 ·subst c1
  have e:dM x st 0=st:=rfl
  rw[e]
  exact⟨rfl,rfl,rfl,hr,hl,hc,by omega,rfl⟩
 ·by_cases c2:0<ch
  ·have e:dM x st ch={ st with cs:=st.cs.take x.a++[st.cs.getD x.a 0+ch]++st.cs.drop (x.a+1),t:=x.u }:=by unfold dM; rw[bB c1,aP c2]
   rw[e]
   refine⟨rfl,rfl,rfl,hr,?_,?_,?_,?_⟩
   ·simp only[gH,jG,wO,jF,GR]
    omega
   ·intro y hy
    rcases m_.mp hy with z | z
    ·rcases m_.mp z with z | z
     ·exact hc y (Mu z)
     ·rw[fH.mp z]
      have hlt:x.a<st.cs.length:=by omega
      have:0<=st.cs.getD x.a 0:=by
       rw[gC,fD hlt]
       exact hc _ (Jx hlt)
      omega
    ·exact hc y (List.mem_of_mem_drop z)
   ·show st.r+(st.cs.take x.a++[st.cs.getD x.a 0+ch]++st.cs.drop (x.a+1)).sum=_
    obtain⟨y0,y1,y2,y3,y4,ey⟩:=Ul hl
    rw[ey]
    have:x.a=0\/x.a=1\/x.a=2\/x.a=3\/x.a=4:=by omega
    rcases this with e | e | e | e | e <;> rw[e] <;> simp <;> omega
   ·show x.u=_
    rw[bB c1,aP c2]
  ·have e:dM x st ch={ st with r:=st.r-(bj st.cs (-ch)).2,cs:=(bj st.cs (-ch)).1,t:=x.d }:=by unfold dM; rw[bB c1,bB c2]
   rw[e]
   obtain⟨k1,k2,k3⟩:=Bw st.cs (-ch) hc (by omega)
   have k4:=ye st.cs (-ch)
   have k5:=CG _ k1
   refine⟨rfl,rfl,rfl,?_,?_,k1,?_,?_⟩
   ·show 0<=st.r-(bj st.cs (-ch)).2
    omega
   ·show(bj st.cs (-ch)).1.length=5
    rw[mL]; exact hl
   ·show st.r-(bj st.cs (-ch)).2+(bj st.cs (-ch)).1.sum=_
    omega
   ·show x.d=_
    rw[bB c1,bB c2]
theorem jh {st:dX} (h:st.cs.length=5):cR st+(st.cs.drop 1++[0]).sum=st.r+st.cs.sum:=by
 obtain⟨a,b,c,d,e,hc⟩:=Ul h
 unfold cR
 rw[hc]
 simp
 omega
theorem wJ {st:dX} (h:st.cs.length=5) (hr:0<=st.r) (hc:∀y∈st.cs,0<=y):0<=cR st:=by
 obtain⟨a,b,c,d,e,ec⟩:=Ul h
 have:=hc a (by rw[ec]; exact jT)
 unfold cR; rw[ec]; show 0<=st.r+a; omega
theorem Hv {st:dX} (hc:∀y∈st.cs,0<=y):∀y∈st.cs.drop 1++[0],0<=y:=fun y hy=>by
 rcases m_.mp hy with z | z
 ·exact hc y (List.mem_of_mem_drop z)
 ·rw[fH.mp z]; exact pJ 0
theorem uH:∀cs:List Int,(∀c∈cs,0<=c)->bj cs 0=(cs,0)
 | [],_=>rfl
 | c::cs,h=>by
  have hc:=h c jT
  rw[bj,uH cs fun y hy=>h y (jx _ hy)]
  simp only
  have e:(if 0<c then(0:Int) else c)=0:=by split <;> omega
  rw[e,Gz,Gz]
theorem Bt:∀(cs:List Int) (n:Int),
  (∀j:Nat,j<cs.length->0<(bj cs n).1.getD j 0->(∀k:Nat,j<k->k<cs.length->¬0<(bj cs n).1.getD k 0)->bj cs (n+1)=((bj cs n).1.set j ((bj cs n).1.getD j 0-1),(bj cs n).2)) /\
  ((∀k:Nat,k<cs.length->¬0<(bj cs n).1.getD k 0)->bj cs (n+1)=((bj cs n).1,(bj cs n).2+1))
 | [],n=>⟨fun j hj=>by simp at hj,fun _=>rfl⟩
 | c::cs,n=>by
  obtain⟨iA,iB⟩:=Bt cs n
  rw[bj,bj]
  generalize hd:(bj cs n).1=ds at *
  generalize hm:(bj cs n).2=m at *
  simp only
  refine⟨fun j hj hp hq=>?_,fun hq=>?_⟩
  ·cases j with
   | zero=>
    have hB:=iB fun k hk=>by
     have:=hq (k+1) (by omega) (by rw[jF]; omega)
     simpa using this
    have hp':0<c-(if m<c then m else c):=by simpa using hp
    rw[hB]
    simp only[List.getD_cons_zero,List.set_cons_zero]
    split at hp'
    ·rename_i z
     rw[aP z]
     by_cases z2:m+1<c
     ·rw[aP z2]
      refine Prod.ext ?_ ?_
      ·simp only; congr 1; omega
      ·simp only; omega
     ·rw[bB z2]
      refine Prod.ext ?_ ?_
      ·simp only; congr 1; omega
      ·simp only; omega
    ·omega
   | succ j=>
    have hA:=iA j (by rw[jF] at hj; omega) (by simpa using hp) fun k h1 h2=>by
     have:=hq (k+1) (by omega) (by rw[jF]; omega)
     simpa using this
    rw[hA]
    simp
  ·have hB:=iB fun k hk=>by
    have:=hq (k+1) (by rw[jF]; omega)
    simpa using this
   have h0:=hq 0 (by rw[jF]; omega)
   have h0':¬0<c-(if m<c then m else c):=by simpa using h0
   rw[hB]
   simp only
   split at h0'
   ·omega
   ·rename_i z
    rw[bB z,bB (by omega)]
    refine Prod.ext rfl ?_
    simp only; omega
theorem Nj (kp:Nat->Bool) (f:Nat->V):∀n:Nat,(((List.range n).filter kp).map f=[]/\∀k,k<n->kp k=false) \/
  ∃(j:Nat) (ini:List V),j<n/\kp j=true/\(∀k,j<k->k<n->kp k=false)/\((List.range n).filter kp).map f=ini++[f j]
 | 0=>.inl ⟨rfl,fun k h=>by omega⟩
 | n+1=>by
  have hs:=BJ kp f n
  cases e:kp n with
  | true=>
   rw[e,aP rfl] at hs
   exact .inr ⟨n,_,by omega,e,fun k h1 h2=>by omega,hs⟩
  | false=>
   rw[e,bB (by decide),lJ] at hs
   rcases Nj kp f n with⟨h1,h2⟩ | ⟨j,ini,h1,h2,h3,h4⟩
   ·refine .inl ⟨by rw[hs]; exact h1,fun k hk=>?_⟩
    by_cases z:k=n
    ·rw[z]; exact e
    ·exact h2 k (by omega)
   ·refine .inr ⟨j,ini,by omega,h2,fun k k1 k2=>?_,by rw[hs]; exact h4⟩
    by_cases z:k=n
    ·rw[z]; exact e
    ·exact h3 k k1 (by omega)
theorem ZZ {l:List Int} {a:Nat} {v:Int} (h:a<l.length):l.set a v=l.take a++[v]++l.drop (a+1):=by
 rw[List.set_eq_take_append_cons_drop,aP h,wR]; rfl
section
variable {P:Program} {w:World} {K:PySem.W.Frag} {mg:Str->Option Value} {base:Heap} {f:Addr} {fd:FuncData} {k:Nat}
structure K_ (st:dX):Prop where
 is:jo st
 r:0<=st.r
 cn:∀y∈st.cs,0<=y
 sm:st.r+st.cs.sum<=12
 t:0<=st.t
theorem StL.toW {x:dX} (h:StL x):K_ x:=⟨h.is,h.r,h.cn,h.sm,h.t.1⟩
theorem K_.next {x:dB} {st:dX} {c:Int} (hx:Rb x) (hs:K_ st):K_ (ou x st c):=by
 have hc5:=hs.is.c
 have h0:=CG _ hs.cn
 have h1:=hs.r
 have h2:=hs.sm
 have hlo:=hx.lo
 have hhi:=hx.hi
 have hwb:0<=jW x.eN x.lo x.hi (st.r+st.cs.sum) (cU x st c)/\jW x.eN x.lo x.hi (st.r+st.cs.sum) (cU x st c)<=12:=by
  unfold jW
  simp only
  repeat' split <;> try omega
 have hbd:0<=st.r+st.cs.sum+rT x st c 12/\st.r+st.cs.sum+rT x st c 12<=12:=by
  unfold rT
  rw[jh hc5]
  split
  ·unfold vB
   split <;> omega
  ·omega
 have hml:(st.cs.drop 1++[0]).length=5:=by simp[hc5]
 have hW:=vI (x:=x) (st:=dU x st c) (ch:=rT x st c 12) hx.a (wJ hc5 hs.r hs.cn) hml (Hv hs.cn) (by show 0<=cR st+(st.cs.drop 1++[0]).sum+rT x st c 12; rw[jh hc5]; exact hbd.1)
 refine⟨Dw hx.is hs.is,hW.r,hW.cn,?_,?_⟩
 ·show(dM x (dU x st c) (rT x st c 12)).r+_<=12
  have:=hW.sm
  have e:(dU x st c).r+(dU x st c).cs.sum=st.r+st.cs.sum:=jh hc5
  rw[e] at this
  show(dM x (dU x st c) (rT x st c 12)).r+(dM x (dU x st c) (rT x st c 12)).cs.sum<=12
  omega
 ·show 0<=(dM x (dU x st c) (rT x st c 12)).t
  rw[hW.t]
  have:=hx.u
  have:=hx.d
  have:=hs.t
  show 0<=(if rT x st c 12=0 then(if 0>st.t-1 then 0 else st.t-1) else if 0<rT x st c 12 then x.u else x.d)
  repeat' split <;> try omega
theorem Ng {x:dB} {cv:Cv} {st:dX} {Pr:En->Prop} (h0:Pr ⟨j0 x st,cv.map (·.1),none⟩) (hs:∀e q (c:Nat),Pr e->Pr (mG x cv e q c)):∀p,∀y∈aO x cv st p,Pr y
 | 0=>fun y hy=>by rw[fH.mp hy]; exact h0
 | p+1=>by
  have ih:=Ng (cv:=cv) (st:=st) h0 hs p
  rw[fV]
  split
  ·rename_i h
   have he:=ih _ (j8 h).1
   have all:∀c,∀y∈NB x cv (eO (aO x cv st p) p) p (aO x cv st p) c,Pr y:=fun c=>by
    induction c with
    | zero=>exact ih
    | succ c hc=>
     intro y hy
     have e:NB x cv (eO (aO x cv st p) p) p (aO x cv st p) (c+1)=yO x cv (eO (aO x cv st p) p) p (NB x cv (eO (aO x cv st p) p) p (aO x cv st p) c) c:=rfl
     rw[e] at hy
     unfold yO at hy
     split at hy
     ·exact hc y hy
     ·rcases m_.mp hy with z | z
      ·exact hc y z
      ·rw[fH.mp z]; exact hs _ _ _ he
   exact all _
  ·exact ih
theorem K_.lean {x:dB} {st:dX} (h:K_ st):K_ (j0 x st):=⟨DP h.is,h.r,h.cn,h.sm,h.t⟩
theorem aaz {x:dB} {st:dX} {c:Int} {b:Int} (hx:Rb x) (hs:K_ st) (h1:st.w<=b) (h2:x.m<=b) (h3:0<=b):(ou x st c).w<=b:=by
 have hc5:=hs.is.c
 have hml:(st.cs.drop 1++[0]).length=5:=by simp[hc5]
 have hr:=wJ hc5 hs.r hs.cn
 have e:(ou x st c).w=st.w+b_ x st c-gW x st c:=by
  show(dM x (dU x st c) (rT x st c 12)).w=_
  unfold dM
  repeat' split
  all_goals rfl
 have hp:=hx.p
 have hm:0<=cR st*x.p:=Int.mul_nonneg hr (by omega)
 rw[e]
 unfold gW
 have ht:st.w+b_ x st c<=b:=by
  unfold b_
  repeat' split
  all_goals omega
 split <;> omega
theorem Y4 {x:dB} {cv:Cv} {st:dX} {b:Int} (hx:Rb x) (hs:K_ st) (h1:st.w<=b) (h2:x.m<=b) (h3:0<=b) (p:Nat):∀y∈aO x cv st p,K_ y.st/\y.st.w<=b:=
 Ng (Pr:=fun e=>K_ e.st/\e.st.w<=b) ⟨hs.lean,h1⟩ (fun e q c ⟨k1,k2⟩=>⟨(k1.next hx).lean,aaz hx k1 k2 h2 h3⟩) p
noncomputable def Sd:Sp:=fun vs H Q _=>∃(v:V) (p:Addr) (h:Int) (r:fP) (cI:List (List Int)) (xs:List V),vs=[v,.int h,.ref p]/\At H (qi r) v/\H p=some (.lst xs)/\ak H (cI.map dw) xs/\Vv r/\lC cI/\∀H',aG H H'->Q (qT (says r h cI)) H'
theorem pO:bf ["_law_row_here","_law_hands","_law_newest","_law_what","_law_span","_law_sign","_law_number","_law_step","_law_at","_law_total"] ["_law_row_here","_law_hands","_law_newest"] (aK mj):=(by walk_at "c")
theorem zp (F:jr K "_law_row_wish" "_law_row_wish" mj f fd) (B:Bi mg):bZ P w K mg base jj (k+1) f fd ["_law_row_here","_law_hands","_law_newest"] Sd:=by
 refine F.ok pO (by rintro vs H Q E ⟨v,p,h,r,cI,xs,rfl,_⟩; rfl) (fun cdv A outer s H vs Q E hr h=>?_)
 obtain⟨rA,p,hh,r,cI,xs,rfl,a1,h1,a2,hR,hN,q⟩:=h
 have ND:=pO.nd
 refine⟨_,(aq (cL (pv 0) (bH (K:=K) (n:=5) rfl rfl (aD (aF (i:=3) ND rfl (by walk_at "o")) (aD (aF (i:=4) ND rfl (by walk_at "o")) (aD (aF (i:=5) ND rfl (by walk_at "o")) (aD (aF (i:=6) ND rfl (by walk_at "o")) (aD (aF (i:=7) ND rfl (by walk_at "o")) bG))))))) (aq (aZ (i:=8) ND rfl (by walk_at "o") (gJ (K:=K) rfl PySem.F.plainAttrs_list PySem.F.slot_list_index PySem.F.type_list_index Bh (bL (aa cA (aa cA (aa cA aj)))) (aa (pv 3) aj))) (aq (aZ (i:=9) ND rfl (by walk_at "o") (pb (pH rfl) B.sum Es (aa (jY (N':=["_law_one","_law_at"]) (js:=[8]) rfl (jK (K:=K) rfl (cZ vd (pv 2) eX (du (pv 4)))) yP.mk1 rfl (by decide) rfl (fun fp s' H'=>(aX aQ (pv 0) (pv 1) (fun _ _=>rfl)))) aj))) (aq (dC (bc jg (pv 5) cA (bh _)) (aH (a_ (aV xm (aV dR (aV bD (pv 9) (aV gK (pv 6) (pv 4))) ao) (aV gK (pv 6) (pv 4))))) bR) (aq (dC (bc jg (pv 5) cA (bh _)) (aH (a_ (eE (bc jZ (pv 9) (aV gK (pv 6) (pv 4)) (bh _)) (aV bD (pv 1) (pv 7)) cW))) bR) (aH (a_ (eE (bc uF (pv 9) (aV gK (pv 6) (pv 4)) (bh _)) (aV bD (pv 1) (pv 7)) cW)))))))),?_⟩
 obtain⟨ra,rfl,g1⟩:=row_shape a1
 walk_at "rd"
 refine⟨ra,_,rfl,cB.of g1,rfl,?_⟩
 walk_at "rd"
 have hRi:=hR.is
 refine⟨(by decide),fun p2 H2 f2 s2 e2=>⟨.inl ⟨rfl,_,dh.of e2⟩,p2,r.w,rfl,e2,rfl,hRi.w,?_⟩⟩
 show ir _ _ _ _ _ _
 rw[O7]
 walk_at "rd"
 refine⟨p,_,rfl,dh.of (s2 _ _ h1),fun p3 f3=>?_⟩
 rw[kY (by omega),tQ]
 have s3:=aM f3 (HO.lst (xs.take r.s))
 have e3:upd H2 p3 (HO.lst (xs.take r.s)) p3=some (.lst (xs.take r.s)):=aC
 generalize upd H2 p3 (HO.lst (xs.take r.s))=H3 at s3 e3 ⊢
 have a3:ak H3 ((cI.take r.s).map dw) (xs.take r.s):=by rw[Aw]; exact(a2.take r.s).mono (s2.trans s3)
 have hs4:=hRi.s
 have htl:(cI.take r.s).length<=4:=by rw[jG]; omega
 refine LCK.of (es:=((cI.take r.s).map fun l=>l.getD (dZ r.w) 0).map .int) e3 (by rw[a3.length,bM,bM,bM]) (jt (bu (by rw[bM,bM]; omega))) (oG _) (fun i y e H' hy he s' R hR'=>?_) (fun acc ys H' s' adt hl hA=>?_)
 ·obtain⟨d,q1,q2⟩:=a3.get hy
  rw[fQ] at q1
  obtain⟨l,el,rfl⟩:=kJ.mp q1
  obtain⟨c,zs,rfl,k1,k2⟩:=bx (q2.mono s')
  cases cu k2
  rw[fQ,fQ,el] at he
  cases he
  have l3:l.length=3:=hN.l l (Mu (je el))
  have hw:=sH r.w
  show R1 _ _ _ [some _,some (.int _)] H' R
  walk_at "rd"
  refine Ix.tup k1 (v:=.int (l.getD (dZ r.w) 0)) (bz (by rw[fQ,fD (by omega),gC,fD (by omega)]; rfl)) ?_
  exact hR' _ _ (aG.refl _) (At.int _)
 ·have hys:=cu hA
  rw[hys] at hl
  refine⟨acc,_,rfl,.inl hl,?_⟩
  have sm:=s2.trans (s3.trans s')
  have q1:=q H' sm
  unfold says at q1
  have et:((cI.take r.s).map fun l=>l.getD (dZ r.w) 0).sum=um r.w r.s cI:=rfl
  rw[et]
  have cm:VD r.n r.s:=.inr (by omega)
  refine gP (fun c1=>?_) (fun c1=>?_)
  ·have c1':=yX c1
   rw[aP c1'] at q1
   have h1n:=hRi.e c1'
   have hpos:0<r.n*(r.s:Int):=Int.mul_pos (by omega) (by omega)
   have hup:r.n*(r.s:Int)<=1000000000000000000000000000000*4:=Int.mul_le_mul hRi.n.2 (by omega) (by omega) (by decide)
   exact⟨cm,cm,⟨hpos,Int.lt_of_le_of_lt hup (by decide)⟩,q1⟩
  ·have c1':=yZ c1
   rw[bB c1'] at q1
   generalize um r.w r.s cI=tot at q1 ⊢
   refine gP (fun c2=>⟨cm,?_⟩) (fun c2=>⟨cm,?_⟩)
   ·have o1:=yX c2
    have u1:¬r.g = "under" := by rw[o1]; decide +kernel
    refine gP (fun c3=>?_) (fun c3=>?_)
    ·rw[aP (.inl ⟨o1,yX c3⟩)] at q1; exact q1
    ·rw[bB (fun z=>by rcases z with z | z; exact yZ c3 z.2; exact u1 z.1)] at q1; exact q1
   ·have o1:=yZ c2
    have u1:r.g = "under" := by
     have hG3:=hR.g
     simp only[bU,jH,or_false] at hG3
     rcases hG3 with z | z | z
     ·exact absurd z o1
     ·exact z
     ·exact absurd z c1'
    refine gP (fun c3=>?_) (fun c3=>?_)
    ·rw[aP (.inr ⟨u1,yX c3⟩)] at q1; exact q1
    ·rw[bB (fun z=>by rcases z with z | z; exact o1 z.1; exact yZ c3 z.2)] at q1; exact q1
noncomputable def uy:Option Int->PyData
 | none=>.none
 | some i=>.int i
theorem Gm:∀os:List (Option Int),bN (os.map uy)=true
 | []=>rfl
 | o::os=>by
  show(uQ (uy o)&&bN (os.map uy))=true
  rw[Gm os]; cases o <;> rfl
theorem Ar {G:Hp}:∀{os:List (Option Int)} {xs:List V},ak G (os.map uy) xs->xs=os.map qT
 | [],xs,h=>ak.nD h
 | o::os,xs,h=>by
  obtain⟨x,r,rfl,h1,h2⟩:=ak.bA h
  rw[Ar h2]
  cases o with
  | none=>unfold uy At at h1; rw[h1]; rfl
  | some i=>unfold uy At at h1; rw[h1]; rfl
theorem De {l:List V} {d:V} {P:V->Bool}:((List.range l.length).filter fun i=>P (l.getD i d)).map (fun i=>l.getD i d)=l.filter P:=by
 have e:(List.range l.length).map (fun i=>l.getD i d)=l:=by
  apply G7
  ·simp
  ·intro i h1 h2
   rw[List.getElem_map,Hb,gC,fD h2]; rfl
 have:=nZ (List.filter P) e
 rw[List.filter_map] at this
 exact this
theorem sY:∀os:List (Option Int),(os.map qT).filter (fun v=>!decide (v=V.non))=(os.filterMap id).map V.int
 | []=>rfl
 | none::os=>by
  rw[q_,List.filter_cons,Px]
  simp only[qT,decide_true,wL,jw,if_false,id]
  exact sY os
 | some i::os=>by
  rw[q_,List.filter_cons,Px]
  have e:(!decide (qT (some i)=V.non))=true:=by simp[qT]
  rw[aP e,sY os]; rfl
noncomputable def XM (h:Int):List Int->Int
 | []=>h
 | i::_=>i
theorem uz (h:Int) (cI:List (List Int)):∀rs:List fP,fZ h cI rs=XM h ((rs.map fun r=>says r h cI).filterMap id)
 | []=>rfl
 | r::rs=>by
  rw[fZ,q_,Px]
  cases e:says r h cI with
  | none=>simp only[id]; exact uz h cI rs
  | some i=>rfl
noncomputable def Ls:Sp:=fun vs H Q _=>∃(v:V) (p:Addr) (h:Int) (x:dB) (cI:List (List Int)) (xs:List V),vs=[v,.int h,.ref p]/\At H (jn x) v/\H p=some (.lst xs)/\ak H (cI.map dw) xs/\Rb x/\lC cI/\∀H',aG H H'->Q (.int (jW x.eN x.lo x.hi h cI)) H'
theorem Ak:bf ["_law_post","_law_hands","_law_newest","_law_wishes","_law_rule","_law_said","_law_some","_law_wanted"] ["_law_post","_law_hands","_law_newest"] (aK wB):=(by walk_at "c")
theorem Qk (F:jr K "_law_wish" "_law_wish" wB f fd) (B:Bi mg) (El:Ct P w K mg base k "_law_row_wish" ["_law_row_here","_law_hands","_law_newest"] Sd):bZ P w K mg base jj (k+1) f fd ["_law_post","_law_hands","_law_newest"] Ls:=by
 refine F.ok Ak (by rintro vs H Q E ⟨v,p,h,x,cI,xs,rfl,_⟩; rfl) (fun cdv A outer s H vs Q E hr h=>?_)
 obtain⟨pA,p,hh,x,cI,xs,rfl,a1,h1,a2,hx,hN,q⟩:=h
 have ND:=Ak.nd
 refine⟨_,(aq (aZ (i:=3) ND rfl (by walk_at "o") (bL aj)) (aq (gb PassesOwn.never rfl (fU (K:=K) rfl (aX aQ (pv 0) ao (fun _ _=>rfl))) (aF (i:=4) ND rfl (by walk_at "o")) (aq (vg (i:=5) ND rfl (by walk_at "o") (N':=["_law_row_here","_law_hands","_law_newest"]) (js:=[1,2]) rfl (fU (K:=K) rfl (pv 4)) yP.mk2 rfl (by decide) rfl (fun fp s' H'=>(pf El hr (aa (pv 0) (aa (pv 1) (aa (pv 2) aj)))))) (aq (w6 (i:=6) ND rfl (by walk_at "o") (nt:=1) (N':=["_law_one"]) (js:=[]) rfl (jK (K:=K) rfl (pv 5)) jz.of (fun fp s' H'=>(aF (i:=0) (by show List.Nodup (["_law_one"]:List Str); decide) rfl (.inl (iJ rfl)) (.inr (iJ rfl)))) (fun fp s' H'=>DY (bc o_ (pv 0) cW (bh _))) (fun fp s' H'=>(pv 0))) (aH (iw (gJ (K:=K) rfl PySem.F.plainAttrs_list PySem.F.slot_list_append PySem.F.type_list_append fG (pv 3) (aa (eE (bc (JN hr.units) (pv 6) (bL aj) (bh _)) (aX aQ (pv 6) ao (fun _ _=>rfl)) (pv 1)) aj))))))) (aq (aZ (i:=7) ND rfl (by walk_at "o") (eE (bc (JN hr.units) (pv 3) (bL aj) (bh _)) (pb (pI rfl) B.max iH (aa (pv 3) aj)) (pv 1))) (aH (a_ (pb (fX rfl) B.max iH (aa (aX aQ (aX aQ (pv 0) ao (fun _ _=>rfl)) ao (fun _ _=>rfl)) (aa (pb (dz rfl) B.min gk (aa (aX aQ (aX aQ (pv 0) ao (fun _ _=>rfl)) ao (fun _ _=>rfl)) (aa (pv 7) aj))) aj)))))))),?_⟩
 obtain⟨pa,pb,pc,pd,rfl,p1,p2,p3,p4⟩:=jJ a1
 walk_at "rd"
 refine⟨(by decide),fun pw H2 f2 s2 e2=>?_⟩
 obtain⟨_,rs,ep,gr,ar⟩:=bx p4
 cases ep
 have lrs:rs.length=x.eN.length:=by rw[ar.length,bM]
 rw[nF]
 walk_at "rd"
 refine Ix.tup (s2 _ _ p1) (v:=.ref pd) rfl ?_
 refine TK.of (s2 _ _ gr) (fun i σ H'=>∃(o4 o5 o6 o7:Option V),σ=[some (.ref pa),some (.int hh),some (.ref p),some (.ref pw),o4,o5,o6,o7]/\H' pw=some (.lst (((x.eN.take i).map (fZ hh cI)).map V.int))/\SX pw H H')
  ⟨_,_,_,_,rfl,e2,SX.of s2⟩ (fun i σ H' _ ⟨_,_,_,_,_,_,sx⟩=>(SX.same f2 sx) _ _ gr) ?_ ?_
 ·rintro i y σ H3 hy ⟨o4,o5,o6,o7,rfl,e3,sx⟩
  have sm:=SX.same f2 sx
  obtain⟨d,ed,ad⟩:=ar.get hy
  rw[fQ] at ed
  obtain⟨rl,erl,rfl⟩:=kJ.mp ed
  have hG:=hx.r rl (je erl)
  obtain⟨ra,zs,rfl,g1,g2⟩:=bx (ad.mono sm)
  have lz:zs.length=rl.length:=by rw[g2.length,bM]
  walk_at "rd"
  refine XQ (es:=(rl.map fun r=>says r hh cI).map uy) (fun R hR=>?_) g1 (by rw[bM,bM,lz]) (jt (bu (by rw[bM,bM]; have:=hG.hi; omega))) (Gm _) (fun j z e H' hz he s' R hR=>?_) (fun acc ys H4 s4 adt h4 hA=>?_)
  ·walk_at "rd"; exact hR
  ·obtain⟨d,q1,q2⟩:=g2.get hz
   rw[fQ] at q1
   obtain⟨r,er,rfl⟩:=kJ.mp q1
   rw[fQ,fQ,er] at he
   cases he
   show qL _ _ _ _ [some _,some (.int hh),some (.ref p)] H' R
   walk_at "rd"
   refine⟨_,p,hh,r,cI,xs,rfl,q2.mono s',(sm.trans s') _ _ h1,a2.mono (sm.trans s'),hG.g r (je er),hN,fun cY s''=>hR _ _ s'' ?_⟩
   show At cY (uy (says r hh cI)) (qT (says r hh cI))
   cases says r hh cI with
   | none=>exact At.non
   | some i=>exact At.int _
  ·have hys:=Ar hA
   have lys:ys.length=rl.length:=by rw[hys,bM,bM]
   have e4:H4 pw=some (.lst (((x.eN.take i).map (fZ hh cI)).map V.int)):=s4 _ _ e3
   refine Oe (fun j=>!decide (ys.getD j .non=V.non)) (fun j=>ys.getD j .non) (fun R hR=>?_) h4 (by have:=hG.hi; omega) (fun j z H' hz s' R hR=>?_) (fun j z H' hz hk s' R hR=>?_) (fun K9 H5 s5 ahE h5=>?_)
   ·walk_at "rd"; exact hR
   ·walk_at "rd"
    have ez:ys.getD j .non=z:=by rw[gC,hz]; rfl
    rw[ez] at hR
    exact⟨trivial,hR⟩
   ·walk_at "rd"
    have ez:ys.getD j .non=z:=by rw[gC,hz]; rfl
    rw[ez] at hR
    exact hR
   ·rw[De (P:=fun v=>!decide (v=V.non)),hys,sY] at h5
    have hrw:=uz hh cI rl
    generalize hI:(rl.map fun r=>says r hh cI).filterMap id=is at h5 hrw
    have e5:=s5 _ _ e4
    have s35:=s4.trans s5
    have ap:∀(v:Int) (H6:Hp),v=fZ hh cI rl->aG H5 H6->Mg (V.ref pw) [V.int v] H6 (fun _ H1=>∃(o4 o5 o6 o8:Option V),[some (V.ref pa),some (V.int hh),some (V.ref p),some (V.ref pw),some (V.ref ra),some (V.ref acc),some (V.ref K9),o7]=[some (V.ref pa),some (V.int hh),some (V.ref p),some (V.ref pw),o4,o5,o6,o8]/\H1 pw=some (HO.lst (List.map V.int (List.map (fZ hh cI) (List.take (i+1) x.eN))))/\SX pw H H1):=fun v H6 hv s6=>by
     refine⟨pw,_,_,rfl,rfl,s6 _ _ e5,bu (by rw[bM,bM,jG]; have:=hx.n; omega),?_⟩
     refine⟨_,_,_,_,rfl,?_,(sx.trans (SX.of (s35.trans s6))).trans SX.upd⟩
     rw[take_snoc erl,iu,iu,hv]
     exact aC
    refine⟨.inl ⟨rfl,_,dh.of e5⟩,(by decide),fun p6 H6 f6 s6 e6=>?_⟩
    have z:=pC is
    refine⟨.list (is.map .int),.list [],At.lst (s6 _ _ h5) (bw _),At.lst e6 ak.nil,z.1,rfl,z.2.1,rfl,z.2.2,?_⟩
    cases is with
    | nil=>
     have eq:PyData.eqv (.list (([]:List Int).map .int)) (.list [])=true:=rfl
     rw[eq,bB (by decide)]
     exact ap hh H6 hrw.symm s6
    | cons i0 is'=>
     have eq:PyData.eqv (.list ((i0::is').map .int)) (.list [])=false:=rfl
     rw[eq,aP (by decide)]
     exact Ix.lst (s6 _ _ h5) (v:=.int i0) (bz (j:=0) rfl) (ap i0 H6 hrw.symm s6)
 ·rintro σ H3 ⟨o4,o5,o6,o7,rfl,e3,sx⟩
  have sm:=SX.same f2 sx
  rw[lrs,pL] at e3
  walk_at "rd"
  refine⟨(by decide),fun p4' H4 f4 s4 e4=>?_⟩
  have fin:∀w:Int,w=topOf hh (x.eN.map (fZ hh cI))->∀H5,aG H H5->Df (V.ref pa) (V.int 2) H5 fun x H1=>Df x (V.int 0) H1 fun x H1=>Df (V.ref pa) (V.int 2) H1 fun x_1 H1=>Df x_1 (V.int 1) H1 fun x_2 H1=>∃i j,[x_2,V.int w]=[V.int i,V.int j]/\∃i_1 j_1,[x,V.int (if j<i then j else i)]=[V.int i_1,V.int j_1]/\Q (V.int (if j_1>i_1 then j_1 else i_1)) H1:=fun w hw H5 s5=>by
   refine Ix.tup (s5 _ _ p1) (v:=.ref pb) rfl (Ix.tup (s5 _ _ p2) (v:=.int x.lo) rfl (Ix.tup (s5 _ _ p1) (v:=.ref pb) rfl (Ix.tup (s5 _ _ p2) (v:=.int x.hi) rfl ⟨_,_,rfl,_,_,rfl,?_⟩)))
   have h9:=q H5 s5
   have e9:jW x.eN x.lo x.hi hh cI=(if(if w<x.hi then w else x.hi)>x.lo then(if w<x.hi then w else x.hi) else x.lo):=by
    unfold jW
    rw[<- hw]
    have:=hx.lo
    simp only
    repeat' split <;> try omega
   rw[e9] at h9
   exact h9
  have z:=pC (x.eN.map (fZ hh cI))
  refine⟨.list ((x.eN.map (fZ hh cI)).map .int),.list [],At.lst (s4 _ _ e3) (bw _),At.lst e4 ak.nil,z.1,rfl,z.2.1,rfl,z.2.2,?_⟩
  have sm4:=sm.trans s4
  have e3':=s4 _ _ e3
  cases hW:x.eN.map (fZ hh cI) with
  | nil=>
   have eq:PyData.eqv (.list (([]:List Int).map .int)) (.list [])=true:=rfl
   rw[eq,bB (by decide)]
   exact fin hh (by rw[hW]; rfl) _ sm4
  | cons w0 ws=>
   have eq:PyData.eqv (.list ((w0::ws).map .int)) (.list [])=false:=rfl
   rw[eq,aP (by decide)]
   rw[hW] at e3'
   refine⟨pw,w0,ws,rfl,e3',?_⟩
   exact fin _ (by rw[hW]; rfl) _ sm4
theorem lock {p:Prop} (h:p):p:=h
theorem eQ.open {a b:TS} {D:Ends} {σ:St} {H:Hp} (h:a { D with nx:=b D } σ H):eQ a b D σ H:=h
noncomputable def CV:Sp:=fun vs H Q _=>∃(v u:V) (x:dB) (st:dX) (come:Int),vs=[v,u,.int come]/\At H (jn x) v/\At H (jk st) u/\Rb x/\K_ st /\
 ∀p u' H',aG H H'->At H' (jk (ou x st come)) u'->H' p=some (.tup [u',.int (come-b_ x st come)])->Q (.ref p) H'
theorem Ao:bf ["_law_post","_law_stand","_law_come","_law_pace","_law_room","_law_hands","_law_late","_law_every","_law_rests","_law_rules","_law_wait","_law_ready","_law_called","_law_since","_law_rest","_law_seen","_law_line","_law_here","_law_done","_law_newest","_law_change","_law_there","_law_k","_law_last"] ["_law_post","_law_stand","_law_come"] (aK wG):=(by walk_at "c")
theorem Qo (F:jr K "_law_beat" "_law_beat" wG f fd) (B:Bi mg) (Vm:Ct P w K mg base k "_law_wish" ["_law_post","_law_hands","_law_newest"] Ls):bZ P w K mg base jj (k+1) f fd ["_law_post","_law_stand","_law_come"] CV:=by
 refine F.ok Ao (by rintro vs H Q E ⟨v,u,x,st,come,rfl,_⟩; rfl) (fun cdv A outer s H vs Q E hr h=>?_)
 obtain⟨pA,sA,x,st,come,rfl,a1,a2,hx,hs,q⟩:=h
 have ND:=Ao.nd
 refine⟨_,(aq (cL (pv 0) (bH (K:=K) (n:=7) rfl rfl (aD (aF (i:=3) ND rfl (by walk_at "o")) (aD (aF (i:=4) ND rfl (by walk_at "o")) (aD (aF (i:=5) ND rfl (by walk_at "o")) (aD (aF (i:=6) ND rfl (by walk_at "o")) (aD (aF (i:=7) ND rfl (by walk_at "o")) (aD (aF (i:=8) ND rfl (by walk_at "o")) (aD (aF (i:=9) ND rfl (by walk_at "o")) bG))))))))) (aq (cL (pv 1) (bH (K:=K) (n:=6) rfl rfl (aD (aF (i:=10) ND rfl (by walk_at "o")) (aD (aF (i:=11) ND rfl (by walk_at "o")) (aD (aF (i:=12) ND rfl (by walk_at "o")) (aD (aF (i:=13) ND rfl (by walk_at "o")) (aD (aF (i:=14) ND rfl (by walk_at "o")) (aD (aF (i:=15) ND rfl (by walk_at "o")) bG)))))))) (aq (cL (aY (aa (aV bD (pv 11) (aX aQ (pv 12) ao (fun _ _=>rfl))) (aa (aV tV (pt (uf) B.list j7 (aa (cZ gB (pv 12) (du ao) eX) aj)) (bL (aa ao aj))) aj))) (bH (K:=K) (n:=2) rfl rfl (aD (aF (i:=11) ND rfl (by walk_at "o")) (aD (aF (i:=16) ND rfl (by walk_at "o")) bG)))) (aq (aZ (i:=17) ND rfl (by walk_at "o") (aV bD (pv 10) (pb (dz rfl) B.min gk (aa (pv 2) (aa (pb (fX rfl) B.max iH (aa (aV dR (pv 4) (pv 10)) (aa ao aj))) aj))))) (aq (aZ (i:=18) ND rfl (by walk_at "o") (pb (dz rfl) B.min gk (aa (pv 17) (aa (aV gK (pv 11) (pv 3)) aj)))) (aq (mD (i:=19) (j:=20) rfl ND rfl rfl (by decide) rfl rfl (aa (aV tV (bL (aa (aY (aa (pv 2) (aa (pv 18) (aa (aV dR (pv 17) (pv 18)) aj)))) aj)) (pt (uf) B.list j7 (aa (pv 15) aj))) (aa ao aj)) (by rfl)) (aq (dC (PW.pt (wX (bc M4 (aV bD (pv 13) ao) (pv 7) (bh _)) (rC (bc jg (pv 14) ao (bh _))))) (aq (aZ (i:=21) ND rfl (by walk_at "o") (aV bD (pv 11) (pb (pH rfl) B.sum Es (aa (pv 16) aj)))) (aH (aZ (i:=20) ND rfl (by walk_at "o") (pb (dz rfl) B.min gk (aa (aV dR (pf Vm hr (aa (pv 0) (aa (pv 21) (aa (pv 19) aj)))) (pv 21)) (aa ao aj)))))) bR) (aq (dC (bc jZ (pv 20) ao (bh _)) (aH (cL (aV bD (aX aQ (pv 16) (pv 6) (fun _ _=>rfl)) (pv 20)) (qj (pv 16) (pv 6) set_list))) bR) (aq (gb PassesOwn.never rfl (d_ (by rfl) B.range (aa (pb (fX rfl) B.max iH (aa ao (aa (aV dR ao (pv 20)) aj))) aj)) (aF (i:=22) ND rfl (by walk_at "o")) (aq (w6 (i:=23) ND rfl (by walk_at "o") (nt:=1) (N':=["_law_place","_law_line"]) (js:=[16]) rfl (d_ (by rfl) B.range (aa ao aj)) jz.of (fun fp s' H'=>(aF (i:=0) (by show List.Nodup (["_law_place","_law_line"]:List Str); decide) rfl (.inl (iJ rfl)) (.inr (iJ rfl)))) (fun fp s' H'=>DY (bc jZ (aX aQ (pv 1) (pv 0) (fun _ _=>rfl)) ao (bh _))) (fun fp s' H'=>(pv 0))) (aH (dC (bc (JN hr.units) (pv 23) (bL aj) (bh _)) (aH (cL (aV dR (aX aQ (pv 16) (aX aQ (pv 23) (Hk vK ao) (fun _ _=>rfl)) (fun _ _=>rfl)) ao) (qj (pv 16) (aX aQ (pv 23) (Hk vK ao) (fun _ _=>rfl)) set_list))) (aH (aZ (i:=11) ND rfl (by walk_at "o") (aV dR (pv 11) ao))))))) (aq (aZ (i:=14) ND rfl (by walk_at "o") (eE (bc M3 (pv 20) ao (bh _)) (aX aQ (pv 8) (pt (lV) B.int uh (aa (fK uF (pv 20) ao (bh _)) aj)) (fun _ _=>rfl)) (pb (fX rfl) B.max iH (aa ao (aa (aV dR (pv 14) ao) aj))))) (aq (aZ (i:=13) ND rfl (by walk_at "o") (eE (bc M4 (aV bD (pv 13) ao) (pv 7) (bh _)) ao (aV bD (pv 13) ao))) (aH (a_ (aY (aa (aY (aa (aV dR (pv 17) (pv 18)) (aa (pv 11) (aa (pt (b8) B.tuple cg (aa (pv 16) aj)) (aa (pv 13) (aa (pv 14) (aa (pt (b8) B.tuple cg (aa (cZ vd (pv 19) eX (du ao)) aj)) aj))))))) (aa (aV dR (aV bD (pv 10) (pv 2)) (pv 17)) aj)))))))))))))))),?_⟩
 obtain⟨pa,pb,pc,pd,rfl,p1,p2,p3,p4⟩:=jJ a1
 obtain⟨sa,sb,sc,rfl,g1,g2,g3⟩:=fC a2
 simp only[Gg,Gh 15,Gh 14,Gh 17,Gh 18]
 generalize hb:eQ _ _=b
 revert b
 refine lock ?_
 intro b hb
 walk_at "rd"
 refine⟨pa,_,rfl,cB.of p1,rfl,?_⟩
 walk_at "rd"
 refine⟨sa,_,rfl,cB.of g1,rfl,?_⟩
 walk_at "rd"
 have hc5:=hs.is.c
 have hxp:=hx.p
 have gc0:Il (st.cs.map V.int) 0=some (.int (st.cs.getD 0 0)):=by
  obtain⟨y0,y1,y2,y3,y4,ey⟩:=Ul hc5
  rw[ey]; rfl
 refine Ix.tup g2 (v:=.int (st.cs.getD 0 0)) gc0 ⟨_,_,rfl,rfl,sb,_,rfl,g2,fun q1 H1 s1 e1=>⟨q1,_,rfl,e1,fun l2 f2=>⟨(by decide),fun q3 H3 f3 s3 e3=>?_⟩⟩⟩
 rw[oM (by decide)] at s3
 have s2:=aM f2 (HO.lst ((st.cs.map V.int).drop (Int.toNat 1)))
 refine⟨l2,q3,_,_,rfl,rfl,s3 _ _ aC,e3,by simp[hc5]; decide,fun pl fl=>?_⟩
 have jA:aG H H3:=s1.trans (s2.trans s3)
 have fl':H pl=none:=jA.free fl
 have el:(st.cs.map V.int).drop (Int.toNat 1)++[V.int 0]=(st.cs.drop 1++[0]).map V.int:=by simp
 rw[el]
 have s4:aG H (upd H3 pl (HO.lst ((st.cs.drop 1++[0]).map V.int))):=jA.trans (aM fl _)
 have e4:upd H3 pl (HO.lst ((st.cs.drop 1++[0]).map V.int)) pl=some (.lst ((st.cs.drop 1++[0]).map V.int)):=aC
 generalize upd H3 pl (HO.lst ((st.cs.drop 1++[0]).map V.int))=H4 at s4 e4 ⊢
 refine⟨(by decide),fun q5 H5 f5 s5 e5=>⟨q5,_,rfl,cB.of e5,rfl,?_⟩⟩
 have s45:=s4.trans s5
 have e45:=s5 _ _ e4
 clear e1 e3 f2 f3 s1 s2 s3 jA e4 el
 walk_at "rd"
 subst hb
 refine eQ.open ?_
 generalize hb:eQ _ _=b
 revert b
 refine lock ?_
 intro b hb
 walk_at "rd"
 subst hb
 refine eQ.open ?_
 generalize hb:eQ _ _=b
 revert b
 refine lock ?_
 intro b hb
 walk_at "rd"
 refine⟨.inr (by omega),?_⟩
 have ert:(st.r+st.cs.getD 0 0)=cR st:=rfl
 have etk:(if(if 0>x.m-st.w then 0 else x.m-st.w)<come then(if 0>x.m-st.w then 0 else x.m-st.w) else come)=b_ x st come:=rfl
 rw[ert,etk]
 have edn:(if cR st*x.p<st.w+b_ x st come then cR st*x.p else st.w+b_ x st come)=gW x st come:=rfl
 rw[edn]
 obtain⟨_,us,esc,gu,au⟩:=bx g3
 cases esc
 have lus:us.length=3:=by rw[au.length,bM,hs.is.u]
 refine⟨(by decide),fun q6 H6 f6 s6 e6=>⟨(by decide),fun q7 H7 f7 s7 e7=>Xi e7 ((s45.trans (s6.trans s7)) _ _ gu) (by rw[lus]; exact(by decide:4<=sizeLine)) fun pn H8 s8 e8=>⟨_,_,rfl,?_⟩⟩⟩
 have s58:=s6.trans (s7.trans s8)
 have s48:=s45.trans s58
 have e48:=s58 _ _ e45
 replace e8:H8 pn=some (.lst (V.ref q6::us)):=e8
 have aN:ak H8 ((cU x st come).map dw) (V.ref q6::us):=ak.cons (At.tup ((s7.trans s8) _ _ e6) (bw [come,gW x st come,st.w+b_ x st come-gW x st come])) (au.mono s48)
 have hN:lC (cU x st come):=⟨by show st.us.length+1=4; rw[hs.is.u],fun y hy=>by
  rcases bU.mp hy with z | z
  ·rw[z]; rfl
  ·exact hs.is.l y z⟩
 have npl:pn≠pl:=fun z=>by
  rw[z,e48] at e8
  have:=nZ List.length (HO.lst.inj (Option.some.inj e8))
  rw[bM,jF,lus] at this
  simp[hc5] at this
 clear e6 e7 f6 f7 s6 s7 s8 e5 f5 s5 e45
 have hml:(st.cs.drop 1++[0]).length=5:=by simp[hc5]
 have hmn:∀y∈st.cs.drop 1++[0],0<=y:=Hv hs.cn
 have hrn:=wJ hc5 hs.r hs.cn
 subst hb
 refine eQ.of (fun σ' H'=>aG H8 H'/\∃o:Option V,σ'=[some (V.ref pa),some (V.ref sa),some (V.int come),some (V.int x.p),some (V.int x.m),some (V.ref pb),some (V.int ↑x.a),some (V.int x.e),some (V.ref pc),some (V.ref pd),some (V.int st.w),some (V.int (cR st)),some (V.ref sb),some (V.int st.s),some (V.int st.t),some (V.ref sc),some (V.ref pl),some (V.int (st.w+b_ x st come)),some (V.int (gW x st come)),some (V.ref pn),some (V.int (rT x st come 12)),o,none,none]) ?_ ?_
 rotate_left 1
 ·intro N pU
  walk_at "rd"
  by_cases c1:x.e<=st.s+1
  ·rw[aP (h_ c1)]
   by_cases c2:st.t=0
   ·rw[aP (h_ c2)]
    refine⟨pl,_,rfl,.inl e48,.ref pa,pn,_,x,cU x st come,_,rfl,a1.mono s48,e8,aN,hx,hN,fun H9 s9=>⟨_,_,rfl,rfl,pU _ _ ⟨s9,some (V.int (cR st+(st.cs.drop 1++[0]).sum)),?_⟩⟩⟩
    have e:rT x st come 12=(if 12<jW x.eN x.lo x.hi (cR st+(st.cs.drop 1++[0]).sum) (cU x st come)-(cR st+(st.cs.drop 1++[0]).sum) then 12 else jW x.eN x.lo x.hi (cR st+(st.cs.drop 1++[0]).sum) (cU x st come)-(cR st+(st.cs.drop 1++[0]).sum)):=by
     have hl:kO x.e st.s st.t=true:=by unfold kO; rw[bB (by omega)]; exact h_ c2
     unfold rT
     rw[aP hl]; rfl
    rw[e]
   ·rw[bB (by simpa using c2)]
    have e:rT x st come 12=0:=by
     have hl:kO x.e st.s st.t=false:=by unfold kO; rw[bB (by omega)]; exact ju c2
     unfold rT
     rw[hl,bB (by decide)]
    rw[e] at pU
    exact pU _ _ ⟨aG.refl _,_,rfl⟩
  ·rw[bB (by simpa using c1)]
   have e:rT x st come 12=0:=by
    have hl:kO x.e st.s st.t=false:=by unfold kO; rw[aP (by omega)]
    unfold rT
    rw[hl,bB (by decide)]
   rw[e] at pU
   exact pU _ _ ⟨aG.refl _,_,rfl⟩
 rintro σ' H9 ⟨s89,o,rfl⟩
 have hbd:0<=st.r+st.cs.sum+rT x st come 12:=by
  have h0:=CG _ hs.cn
  have h1:=hs.r
  unfold rT
  rw[jh hc5]
  split
  ·unfold vB
   have h2:0<=jW x.eN x.lo x.hi (st.r+st.cs.sum) (cU x st come):=by
    have h3:=hx.lo
    unfold jW
    simp only
    repeat' split <;> try omega
   split <;> omega
  ·omega
 have hcx:ou x st come=dM x (dU x st come) (rT x st come 12):=rfl
 rw[hcx] at q
 generalize rT x st come 12=ch at q hbd ⊢
 have e9:=s89 _ _ e48
 have s49:=s48.trans s89
 refine eQ.of (fun σ' H'=>σ'=[some (V.ref pa),some (V.ref sa),some (V.int come),some (V.int x.p),some (V.int x.m),some (V.ref pb),some (V.int ↑x.a),some (V.int x.e),some (V.ref pc),some (V.ref pd),some (V.int st.w),some (V.int (cR st)),some (V.ref sb),some (V.int st.s),some (V.int st.t),some (V.ref sc),some (V.ref pl),some (V.int (st.w+b_ x st come)),some (V.int (gW x st come)),some (V.ref pn),some (V.int ch),o,none,none]/\H' pl=some (.lst ((if 0<ch then(st.cs.drop 1++[0]).set x.a ((st.cs.drop 1++[0]).getD x.a 0+ch) else st.cs.drop 1++[0]).map V.int))/\SX pl H H'/\SX pl H9 H') ?_ ?_
 rotate_left 1
 ·intro N pU
  walk_at "rd"
  have ha:=hx.a
  by_cases c1:0<ch
  ·rw[aP (h_ c1)]
   rw[aP c1] at pU
   refine Ix.lst e9 (v:=.int ((st.cs.drop 1++[0]).getD x.a 0)) (bz (by rw[fQ,fD (by omega),gC,fD (by omega)]; rfl)) ⟨_,_,rfl,rfl,pl,_,_,x.a,rfl,rfl,e9,rN (by rw[bM]; omega),?_⟩
   refine pU _ _ ⟨rfl,?_,(SX.of s49).trans SX.upd,SX.upd⟩
   rw[aC,List.map_set]
  ·rw[bB (by simpa using c1)]
   rw[bB c1] at pU
   exact pU _ _ ⟨rfl,e9,SX.of s49,SX.refl _ _⟩
 rintro σ' uL ⟨rfl,e10,x10,y10⟩
 obtain⟨hm,hm0,hmS,hmE⟩:∃hm:Nat->List Int×Int,hm 0=(if 0<ch then(st.cs.drop 1++[0]).set x.a ((st.cs.drop 1++[0]).getD x.a 0+ch) else st.cs.drop 1++[0],0)/\(¬0<ch->∀i:Nat,hm i=bj (st.cs.drop 1++[0]) i)/\(0<ch->∀i,hm i=hm 0):=by
  by_cases c1:0<ch
  ·exact⟨fun _=>((st.cs.drop 1++[0]).set x.a ((st.cs.drop 1++[0]).getD x.a 0+ch),0),by rw[aP c1],fun z=>absurd c1 z,fun _ _=>rfl⟩
  ·exact⟨fun i=>bj (st.cs.drop 1++[0]) i,by rw[bB c1]; exact uH _ hmn,fun _ _=>rfl,fun z=>absurd z c1⟩
 obtain⟨n,hn,aiQ⟩:∃n:Nat,(if 0-ch>0 then 0-ch else 0)=(n:Int)/\n<=24:=⟨(if 0-ch>0 then 0-ch else 0).toNat,by split <;> omega,by have:=hs.sm; split <;> omega⟩
 have aft:uL pn=some (.lst (V.ref q6::us)):=y10.get npl (s89 _ _ e8)
 have agc:ak (hid pl uL) ((cU x st come).map dw) (V.ref q6::us):=(ak.uT e9 _ _ (vL _) (aN.mono s89)).mono y10
 walk_at "rd"
 obtain⟨Pv,hPv⟩:∃Pv:Nat->St->Hp->Prop,∀i σ H',Pv i σ H'↔(∃(o1 o2:Option V),σ=[some (V.ref pa),some (V.ref sa),some (V.int come),some (V.int x.p),some (V.int x.m),some (V.ref pb),some (V.int ↑x.a),some (V.int x.e),some (V.ref pc),some (V.ref pd),some (V.int st.w),some (V.int (cR st-(hm i).2)),some (V.ref sb),some (V.int st.s),some (V.int st.t),some (V.ref sc),some (V.ref pl),some (V.int (st.w+b_ x st come)),some (V.int (gW x st come)),some (V.ref pn),some (V.int ch),o,o1,o2]/\H' pl=some (.lst ((hm i).1.map V.int))/\SX pl uL H'):=⟨_,fun _ _ _=>Iff.rfl⟩
 refine Y9 (n:=n) (fun R hR=>?_) (by omega) Pv ((hPv _ _ _).mpr ⟨_,_,by rw[hm0,Gz],by rw[hm0]; exact e10,SX.refl _ _⟩) ?_ ?_
 ·walk_at "rd"
  rw[hn]; exact hR
 ·intro i σ sG hi aaV
  obtain⟨o1,o2,rfl,Iw,y11⟩:=(hPv _ _ _).mp aaV
  have hneg:¬0<ch:=fun z=>by rw[bB (by omega)] at hn; omega
  rw[hmS hneg i] at Iw ⊢
  obtain⟨nA,nB⟩:=Bt (st.cs.drop 1++[0]) (i:Int)
  have hgl:(bj (st.cs.drop 1++[0]) (i:Int)).1.length=5:=by rw[mL]; exact hml
  rw[hml] at nA nB
  have ei1:((i+1:Nat):Int)=(i:Int)+1:=by omega
  generalize hG:bj (st.cs.drop 1++[0]) (i:Int)=G at Iw nA nB hgl ⊢
  obtain⟨L,m⟩:=G
  simp only at Iw nA nB hgl ⊢
  walk_at "rd"
  refine XR (n:=5) (fun j=>decide (0<L.getD j 0)) (fun j=>V.int (0+(j:Nat))) (fun R hR=>hR) (by decide) (fun j H' hj s' R hR=>?_) (fun j H' hj hk s' R hR=>?_) (fun acc vG s12 adt h12=>?_)
  ·show RW _ [some _,some (.ref pl)] H' R
   walk_at "rd"
   rw[Int.zero_add]
   refine Ix.lst (s' _ _ Iw) (v:=.int (L.getD j 0)) (bz (by rw[fQ,fD (by omega),gC,fD (by omega)]; rfl)) ?_
   walk_at "rd"
   exact hR
  ·show uM 0 [some _,some (.ref pl)] H' R
   walk_at "rd"
   exact hR
  ·have vA:=s12 _ _ Iw
   have eI:((List.range 5).filter fun j=>decide (0<L.getD j 0)).map (fun j=>V.int (0+(j:Nat)))=(((List.range 5).filter fun j=>decide (0<L.getD j 0)).map (fun j=>(0:Int)+(j:Nat))).map V.int:=by rw[List.map_map]; rfl
   have z:=pC (((List.range 5).filter fun j=>decide (0<L.getD j 0)).map (fun j=>(0:Int)+(j:Nat)))
   refine⟨(by decide),fun p13 Iz Za jA N7=>⟨.list ((((List.range 5).filter fun j=>decide (0<L.getD j 0)).map (fun j=>(0:Int)+(j:Nat))).map .int),.list [],At.lst (by rw[<- eI]; exact jA _ _ h12) (bw _),At.lst N7 ak.nil,z.1,rfl,z.2.1,rfl,z.2.2,?_⟩⟩
   have acD:=s12.trans jA
   have aa8:=jA _ _ vA
   have h13:=jA _ _ h12
   rcases Nj (fun j=>decide (0<L.getD j 0)) (fun j=>V.int (0+(j:Nat))) 5 with⟨l1,l2⟩ | ⟨j,ini,j5,hj,hjk,hl⟩
   ·have en:((List.range 5).filter fun j=>decide (0<L.getD j 0)).map (fun j=>(0:Int)+(j:Nat))=[]:=by
     have:=Mt.mp l1
     rw[this]; rfl
    rw[en]
    have eq:PyData.eqv (.list (([]:List Int).map .int)) (.list [])=true:=rfl
    rw[eq,bB (by decide)]
    have hB:=nB fun k hk=>by have:=l2 k hk; simpa using this
    rw[show cR st-m-1=cR st-(m+1) by omega]
    refine(hPv _ _ _).mpr ?_
    rw[hmS hneg (i+1),ei1,hB]
    exact⟨_,_,rfl,aa8,y11.trans (SX.of acD)⟩
   ·have hA:=nA j j5 (by simpa using hj) fun k k1 k2=>by have:=hjk k k1 k2; simpa using this
    have eq:PyData.eqv (.list ((((List.range 5).filter fun j=>decide (0<L.getD j 0)).map (fun j=>(0:Int)+(j:Nat))).map .int)) (.list [])=false:=by
     cases hz:((List.range 5).filter fun j=>decide (0<L.getD j 0)).map (fun j=>(0:Int)+(j:Nat)) with
     | nil=>
      rw[hz] at eI
      rw[eI] at hl
      simp at hl
     | cons a b=>rfl
    rw[eq,aP (by decide)]
    rw[hl] at h13
    rw[Int.zero_add] at h13
    refine Ix.lst h13 (v:=.int (j:Nat)) (Ik _ _) (Ix.lst aa8 (v:=.int (L.getD j 0)) (bz (by rw[fQ,fD (by omega),gC,fD (by omega)]; rfl)) ⟨_,_,rfl,rfl,Ix.lst h13 (v:=.int (j:Nat)) (Ik _ _) ⟨pl,_,_,j,rfl,rfl,aa8,rN (by rw[bM]; omega),?_⟩⟩)
    refine(hPv _ _ _).mpr ?_
    rw[hmS hneg (i+1),ei1,hA]
    refine⟨_,_,rfl,?_,(y11.trans (SX.of acD)).trans SX.upd⟩
    rw[aC,List.map_set]
 intro σ sG aaV
 obtain⟨o1,o2,rfl,Iw,y11⟩:=(hPv _ _ _).mp aaV
 dsimp only
 have hfin:(dM x (dU x st come) ch).r=cR st-(hm n).2/\(dM x (dU x st come) ch).cs=(hm n).1/\(dM x (dU x st come) ch).t=(if ch≠0 then(if ch<0 then x.d else x.u) else(if st.t-1>0 then st.t-1 else 0)) /\
   (dM x (dU x st come) ch).w=st.w+b_ x st come-gW x st come/\(dM x (dU x st come) ch).s=sW x.e st.s/\(dM x (dU x st come) ch).us=(cU x st come).take 3:=by
  have hW:=vI (x:=x) (st:=dU x st come) (ch:=ch) hx.a hrn hml hmn (by show 0<=cR st+(st.cs.drop 1++[0]).sum+ch; rw[jh hc5]; exact hbd)
  refine⟨?_,?_,?_,hW.w,hW.s,hW.u⟩
  ·unfold dM
   by_cases c0:ch=0
   ·rw[aP c0]
    rw[c0] at hn
    have:n=0:=by simpa using hn.symm
    rw[this,hm0,Gz]; rfl
   ·rw[bB c0]
    by_cases c1:0<ch
    ·rw[aP c1,hmE c1 n,hm0,Gz]; rfl
    ·rw[bB c1,hmS c1 n]
     rw[aP (by omega)] at hn
     rw[show -ch=(n:Int) by omega]; rfl
  ·unfold dM
   by_cases c0:ch=0
   ·rw[aP c0]
    have hn':=hn
    rw[c0] at hn'
    have:n=0:=by simpa using hn'.symm
    rw[this,hm0,bB (by omega)]; rfl
   ·rw[bB c0]
    by_cases c1:0<ch
    ·rw[aP c1,hmE c1 n,hm0,aP c1]
     exact(ZZ (l:=st.cs.drop 1++[0]) (by rw[hml]; have:=hx.a; omega)).symm
    ·rw[bB c1,hmS c1 n]
     rw[aP (by omega)] at hn
     rw[show -ch=(n:Int) by omega]; rfl
  ·rw[hW.t]
   show(if ch=0 then(if 0>st.t-1 then 0 else st.t-1) else if 0<ch then x.u else x.d)=_
   repeat' split <;> try omega
 obtain⟨k1,k2,k3,k4,k5,k6⟩:=hfin
 generalize hnx:dM x (dU x st come) ch=nx at q k1 k2 k3 k4 k5 k6
 rw[<- k1]
 rw[<- k2] at Iw
 have x11:aG H sG:=SX.same fl' (x10.trans y11)
 refine eQ.of (fun σ' H'=>sG=H'/\σ'=[some (V.ref pa),some (V.ref sa),some (V.int come),some (V.int x.p),some (V.int x.m),some (V.ref pb),some (V.int ↑x.a),some (V.int x.e),some (V.ref pc),some (V.ref pd),some (V.int st.w),some (V.int nx.r),some (V.ref sb),some (V.int st.s),some (V.int nx.t),some (V.ref sc),some (V.ref pl),some (V.int (st.w+b_ x st come)),some (V.int (gW x st come)),some (V.ref pn),some (V.int ch),o,o1,o2]) ?_ ?_
 rotate_left 1
 ·intro N pU
  walk_at "rd"
  by_cases c1:ch=0
  ·rw[bB (by simpa using c1)]
   rw[bB (show ¬ch≠0 from fun z=>z c1)] at k3
   rw[k3] at pU
   exact pU _ _ ⟨rfl,rfl⟩
  ·rw[aP (by simpa using c1)]
   rw[aP c1] at k3
   by_cases c2:ch<0
   ·rw[aP (h_ c2)]
    rw[aP c2] at k3
    rw[k3] at pU
    exact Ix.tup (x11 _ _ p3) (v:=.int x.d) rfl (pU _ _ ⟨rfl,rfl⟩)
   ·rw[bB (by simpa using c2)]
    rw[bB c2] at k3
    rw[k3] at pU
    exact Ix.tup (x11 _ _ p3) (v:=.int x.u) rfl (pU _ _ ⟨rfl,rfl⟩)
 rintro σ' H' ⟨rfl,rfl⟩
 refine eQ.of (fun σ' H'=>sG=H'/\σ'=[some (V.ref pa),some (V.ref sa),some (V.int come),some (V.int x.p),some (V.int x.m),some (V.ref pb),some (V.int ↑x.a),some (V.int x.e),some (V.ref pc),some (V.ref pd),some (V.int st.w),some (V.int nx.r),some (V.ref sb),some (V.int nx.s),some (V.int nx.t),some (V.ref sc),some (V.ref pl),some (V.int (st.w+b_ x st come)),some (V.int (gW x st come)),some (V.ref pn),some (V.int ch),o,o1,o2]) ?_ ?_
 rotate_left 1
 ·intro N pU
  walk_at "rd"
  unfold sW at k5
  by_cases c1:x.e<=st.s+1
  ·rw[aP (h_ c1)]
   rw[bB (by omega)] at k5
   rw[k5] at pU
   exact pU _ _ ⟨rfl,rfl⟩
  ·rw[bB (by simpa using c1)]
   rw[aP (by omega)] at k5
   rw[k5] at pU
   exact pU _ _ ⟨rfl,rfl⟩
 rintro σ' H' ⟨rfl,rfl⟩
 walk_at "rd"
 have afs:sG pn=some (.lst (V.ref q6::us)):=y11.get npl aft
 have agb:ak sG ((cU x st come).map dw) (V.ref q6::us):=(agc.mono y11).mono fW
 refine⟨pl,_,rfl,Iw,fun l12 Rm=>?_⟩
 have s12:=aM Rm (HO.tup (nx.cs.map V.int))
 have vA:upd sG l12 (HO.tup (nx.cs.map V.int)) l12=some (.tup (nx.cs.map V.int)):=aC
 generalize upd sG l12 (HO.tup (nx.cs.map V.int))=vG at s12 vA ⊢
 refine⟨pn,_,rfl,dh.of (s12 _ _ afs),fun p13 Za=>?_⟩
 rw[kY (by decide)]
 have jA:=aM Za (HO.lst ((V.ref q6::us).take (Int.toNat 3)))
 have N7:upd vG p13 (HO.lst ((V.ref q6::us).take (Int.toNat 3))) p13=some (.lst ((V.ref q6::us).take (Int.toNat 3))):=aC
 generalize upd vG p13 (HO.lst ((V.ref q6::us).take (Int.toNat 3)))=Iz at jA N7 ⊢
 refine⟨p13,_,rfl,N7,fun l14 f14=>?_⟩
 have Dd:=aM f14 (HO.tup ((V.ref q6::us).take (Int.toNat 3)))
 have Ku:upd Iz l14 (HO.tup ((V.ref q6::us).take (Int.toNat 3))) l14=some (.tup ((V.ref q6::us).take (Int.toNat 3))):=aC
 generalize upd Iz l14 (HO.tup ((V.ref q6::us).take (Int.toNat 3)))=Ye at Dd Ku ⊢
 refine⟨(by decide),fun Ir La f15 Ma Ks=>⟨(by decide),fun Ip Ri f16 Dc QL=>?_⟩⟩
 have YG:aG sG Ri:=s12.trans (jA.trans (Dd.trans (Ma.trans Dc)))
 have afV:Ri Ip=some (.tup [.ref Ir,.int (come-b_ x st come)]):=by
  rw[QL,show st.w+come-(st.w+b_ x st come)=come-b_ x st come by omega]
 refine q Ip (.ref Ir) Ri (x11.trans YG) ?_ afV
 have aU:ak Ri (nx.us.map dw) ((V.ref q6::us).take (Int.toNat 3)):=by
  rw[k6,Aw]
  exact(agb.take 3).mono YG
 rw[<- k4] at Ks
 exact At.tup (Dc _ _ Ks) (ak.cons (At.int _) (ak.cons (At.int _) (ak.cons (At.tup ((jA.trans (Dd.trans (Ma.trans Dc))) _ _ vA) (bw _)) (ak.cons (At.int _) (ak.cons (At.int _) (ak.cons (At.tup ((Ma.trans Dc) _ _ Ku) aU) ak.nil))))))
theorem qG (r:fP) (w:Str):∀rs:List fP,bO (rs++[r]) w=if r.w=w/\bO rs w<(r.s:Int)-1 then(r.s:Int)-1 else bO rs w
 | []=>rfl
 | q::rs=>by
  show(if q.w=w/\bO (rs++[r]) w<(q.s:Int)-1 then(q.s:Int)-1 else bO (rs++[r]) w)=(if r.w=w/\(if q.w=w/\bO rs w<(q.s:Int)-1 then(q.s:Int)-1 else bO rs w)<(r.s:Int)-1 then(r.s:Int)-1 else(if q.w=w/\bO rs w<(q.s:Int)-1 then(q.s:Int)-1 else bO rs w))
  rw[qG r w rs]
  by_cases c1:q.w=w <;> by_cases c2:r.w=w <;> simp only[c1,c2,true_and,false_and,if_false] <;> (repeat' split) <;> omega
noncomputable def Lk (rs:List fP):List Int:=[1+bO rs "come",1+bO rs "done",1+bO rs "wait"]
theorem Wm {r:fP} (h:oV r) (rs:List fP):((Lk rs).map V.int)[dZ r.w]?=some (.int (1+bO rs r.w)):=by
 have hw:=h.1
 simp only[bU,jH,or_false] at hw
 rcases hw with z | z | z <;> rw[z] <;> rfl
theorem Wl {r:fP} (h:oV r) (rs:List fP):(Lk rs).set (dZ r.w) (1+bO (rs++[r]) r.w)=Lk (rs++[r]):=by
 have h1:("come" : Str) ≠ "done" := by decide +kernel
 have h2:("come" : Str) ≠ "wait" := by decide +kernel
 have h3:("done" : Str) ≠ "wait" := by decide +kernel
 have hw:=h.1
 have o:∀w:Str,r.w≠w->bO (rs++[r]) w=bO rs w:=fun w hne=>by rw[qG,bB (fun z=>hne z.1)]
 simp only[bU,jH,or_false] at hw
 rcases hw with z | z | z
 ·rw[z,Lk,Lk,o "done" (by rw[z]; exact h1),o "wait" (by rw[z]; exact h2)]
  rfl
 ·rw[z,Lk,Lk,o "come" (by rw[z]; exact h1.symm),o "wait" (by rw[z]; exact h3)]
  rfl
 ·rw[z,Lk,Lk,o "come" (by rw[z]; exact h2.symm),o "done" (by rw[z]; exact h3.symm)]
  rfl
noncomputable def Lw:Sp:=fun vs H Q _=>∃(v u:V) (x:dB) (st:dX),vs=[v,u]/\At H (jn x) v/\At H (jk st) u/\Rb x/\jo st/\∀u' H',aG H H'->At H' (jk (j0 x st)) u'->Q u' H'
theorem Am:bf ["_law_post","_law_stand","_law_spans","_law_rows","_law_rule","_law_row_here","_law_at","_law_k","_law_triple"] ["_law_post","_law_stand"] (aK wD):=(by walk_at "c")
theorem Qm (F:jr K "_law_lean" "_law_lean" wD f fd) (B:Bi mg):bZ P w K mg base jj (k+1) f fd ["_law_post","_law_stand"] Lw:=by
 refine F.ok Am (by rintro vs H Q E ⟨v,u,x,st,rfl,_⟩; rfl) (fun cdv A outer s H vs Q E hr h=>?_)
 obtain⟨pA,sA,x,st,rfl,a1,a2,hx,hs,q⟩:=h
 have ND:=Am.nd
 refine⟨_,(aq (mD (i:=2) (j:=3) rfl ND rfl rfl (by decide) rfl rfl (aa (bL (aa ao (aa ao (aa ao aj)))) (aa (bL aj) aj)) (by rfl)) (aq (gb PassesOwn.never rfl (fU (K:=K) rfl (aX aQ (pv 0) ao (fun _ _=>rfl))) (aF (i:=4) ND rfl (by walk_at "o")) (aH (gb PassesOwn.never rfl (fU (K:=K) rfl (pv 4)) (aF (i:=5) ND rfl (by walk_at "o")) (aq (aZ (i:=6) ND rfl (by walk_at "o") (gJ (K:=K) rfl PySem.F.plainAttrs_list PySem.F.slot_list_index PySem.F.type_list_index Bh (bL (aa cA (aa cA (aa cA aj)))) (aa (aX aQ (pv 5) ao (fun _ _=>rfl)) aj))) (aH (cL (pb (fX rfl) B.max iH (aa (aX aQ (pv 2) (pv 6) (fun _ _=>rfl)) (aa (aX aQ (pv 5) ao (fun _ _=>rfl)) aj))) (qj (pv 2) (pv 6) set_list))))))) (aq (gb PassesOwn.never rfl (Hj (K:=K) rfl B.enumerate (aa (aX aQ (pv 1) ao (fun _ _=>rfl)) aj)) (bH (K:=K) (n:=2) rfl rfl (aD (aF (i:=7) ND rfl (by walk_at "o")) (aD (aF (i:=8) ND rfl (by walk_at "o")) bG))) (aH (iw (gJ (K:=K) rfl PySem.F.plainAttrs_list PySem.F.slot_list_append PySem.F.type_list_append fG (pv 3) (aa (pt (b8) B.tuple cg (aa (fu (nt:=2) (N':=["_law_number","_law_span","_law_k"]) (js:=[7]) rfl (Tz (K:=K) rfl B.zip (aa (pv 8) (aa (pv 2) aj))) jz.of (fun fp s' H'=>(bH (K:=K) (n:=2) rfl rfl (aD (aF (i:=0) (by show List.Nodup (["_law_number","_law_span","_law_k"]:List Str); decide) rfl (.inl (iJ rfl)) (.inr (iJ rfl))) (aD (aF (i:=1) (by show List.Nodup (["_law_number","_law_span","_law_k"]:List Str); decide) rfl (.inl (iJ rfl)) (.inr (iJ rfl))) bG)))) (fun fp s' H'=>gF) (fun fp s' H'=>(aV gK (pv 0) (pt (lV) B.int uh (aa (fK jZ (pv 1) (aV bD (pv 2) ao) (bh _)) aj))))) aj)) aj))))) (aH (a_ (aV ph (cZ gB (pv 1) eX (du ao)) (aY (aa (pb (dz rfl) B.min gk (aa (aX aQ (pv 1) ao (fun _ _=>rfl)) (aa (aV dR (aX aQ (pv 0) ao (fun _ _=>rfl)) ao) aj))) (aa (aX aQ (pv 1) ao (fun _ _=>rfl)) (aa (pt (b8) B.tuple cg (aa (pv 3) aj)) aj)))))))))),?_⟩
 obtain⟨pa,pb,pc,pd,rfl,p1,p2,p3,p4⟩:=jJ a1
 obtain⟨sa,sb,sc,rfl,g1,g2,g3⟩:=fC a2
 walk_at "rd"
 refine⟨(by decide),fun ps H0 f0 s0 e0=>⟨e_ _,fun pr H1 f1 s1 e1=>⟨_,_,rfl,?_⟩⟩⟩
 have npr:pr≠ps:=fun z=>by rw[z,e0] at f1; cases f1
 have e01:H1 ps=some (.lst ((Lk []).map V.int)):=s1 _ _ e0
 have frp:H pr=none:=s0.free f1
 have x1:SX ps H H1:=SX.of (s0.trans s1)
 obtain⟨_,rs,ep,gr,ar⟩:=bx p4
 cases ep
 have lrs:rs.length=x.eN.length:=by rw[ar.length,bM]
 have big:=SX.same f0 x1
 rw[nF]
 walk_at "rd"
 refine Ix.tup (big _ _ p1) (v:=.ref pd) rfl ?_
 refine TK.of (big _ _ gr) (fun i σ H'=>∃(o4 o5 o6:Option V),σ=[some (.ref pa),some (.ref sa),some (.ref ps),some (.ref pr),o4,o5,o6,none,none]/\H' ps=some (.lst ((Lk (x.eN.take i).flatten).map V.int))/\H' pr=some (.lst [])/\SX ps H H')
  ⟨_,_,_,rfl,e01,e1,x1⟩ (fun i σ H' _ ⟨_,_,_,_,_,_,z⟩=>(SX.same f0 z) _ _ gr) ?_ ?_
 ·rintro i y σ H2 hy ⟨o4,o5,o6,rfl,e2,g2',s2⟩
  obtain⟨d,ed,ad⟩:=ar.get hy
  rw[fQ] at ed
  obtain⟨rl,erl,rfl⟩:=kJ.mp ed
  have hG:=hx.r rl (je erl)
  obtain⟨ra,zs,rfl,gz,az⟩:=bx ad
  have lz:zs.length=rl.length:=by rw[az.length,bM]
  walk_at "rd"
  rw[nF]
  walk_at "rd"
  refine TK.of ((SX.same f0 s2) _ _ gz) (fun j σ H'=>∃(o5 o6:Option V),σ=[some (.ref pa),some (.ref sa),some (.ref ps),some (.ref pr),some (.ref ra),o5,o6,none,none]/\H' ps=some (.lst ((Lk ((x.eN.take i).flatten++rl.take j)).map V.int))/\H' pr=some (.lst [])/\SX ps H H')
   ⟨_,_,rfl,by rw[List.take_zero,lJ]; exact e2,g2',s2⟩ (fun j σ H' _ ⟨_,_,_,_,_,z⟩=>(SX.same f0 z) _ _ gz) ?_ ?_
  ·rintro j y σ H3 hy ⟨o5,o6,rfl,e3,g3',s3⟩
   obtain⟨d,ed,ad⟩:=az.get hy
   rw[fQ] at ed
   obtain⟨r,er,rfl⟩:=kJ.mp ed
   have hrI:=(hG.g r (je er)).is
   obtain⟨ya,rfl,gy⟩:=row_shape ad
   have gy3:=(SX.same f0 s3) _ _ gy
   walk_at "rd"
   refine⟨(by decide),fun p4 H4 f4 s4 e4=>⟨.inl ⟨rfl,_,dh.of e4⟩,Ix.tup (s4 _ _ gy3) (v:=.str r.w) rfl ⟨p4,r.w,rfl,e4,rfl,hrI.w,?_⟩⟩⟩
   have e34:=s4 _ _ e3
   refine Ix.lst e34 (v:=.int (1+bO ((x.eN.take i).flatten++rl.take j) r.w)) (bz (Wm hrI _)) (Ix.tup (s4 _ _ gy3) (v:=.int r.s) rfl ⟨_,_,rfl,?_⟩)
   have et:rl.take (j+1)=rl.take j++[r]:=take_snoc er
   have ev:(if(r.s:Int)>1+bO ((x.eN.take i).flatten++rl.take j) r.w then(r.s:Int) else 1+bO ((x.eN.take i).flatten++rl.take j) r.w)=1+bO (((x.eN.take i).flatten++rl.take j)++[r]) r.w:=by
    rw[qG]
    by_cases c1:bO ((x.eN.take i).flatten++rl.take j) r.w<(r.s:Int)-1
    ·rw[aP (show(r.s:Int)>1+bO ((x.eN.take i).flatten++rl.take j) r.w by omega),aP ⟨rfl,c1⟩]; omega
    ·rw[bB (show ¬(r.s:Int)>1+bO ((x.eN.take i).flatten++rl.take j) r.w by omega),bB (fun z=>c1 z.2)]
   rw[ev]
   have hw3:=sH r.w
   refine⟨ps,_,_,dZ r.w,rfl,rfl,e34,rN (by rw[bM]; exact hw3),_,_,rfl,?_,?_,(s3.trans (SX.of s4)).trans SX.upd⟩
   ·rw[aC,<- List.map_set,Wl hrI,et,wR]
   ·rw[aR npr]; exact s4 _ _ g3'
  ·rintro σ H3 ⟨o5,o6,rfl,e3,g3',s3⟩
   rw[lz,pL] at e3
   have et:(x.eN.take (i+1)).flatten=(x.eN.take i).flatten++rl:=by rw[take_snoc erl,List.flatten_append]; simp
   exact⟨_,_,_,rfl,by rw[et]; exact e3,g3',s3⟩
 ·rintro σ H3 ⟨o4,o5,o6,rfl,e3,g3',x3⟩
  rw[lrs,pL] at e3
  walk_at "rd"
  rw[Je]
  walk_at "rd"
  obtain⟨_,us,esc,gu,au⟩:=bx g3
  cases esc
  have lus:us.length=3:=by rw[au.length,bM,hs.u]
  have Vr:=SX.same f0 x3
  have hN:∀j,j<3->(Lk x.eN.flatten).getD j 0=1+(gU x).getD j 0:=fun j hj=>by
   have:j=0\/j=1\/j=2:=by omega
   rcases this with rfl | rfl | rfl <;> rfl
  generalize hM:Lk x.eN.flatten=M at e3 hN
  have lM:M.length=3:=by rw[<- hM]; rfl
  refine Ix.tup (Vr _ _ g1) (v:=.ref sc) rfl ?_
  refine EKT.of (Vr _ _ gu) (fun i σ H'=>∃(ys:List V) (o7 o8:Option V),σ=[some (.ref pa),some (.ref sa),some (.ref ps),some (.ref pr),o4,o5,o6,o7,o8]/\H' pr=some (.lst ys)/\ys.length=i/\ak (hid pr H') (((List.range i).map fun j=>eY (gU x) j (st.us.getD j [])).map dw) ys/\SX pr H3 H')
   ⟨[],_,_,rfl,g3',rfl,ak.nil,SX.refl _ _⟩ (fun i σ H' _ ⟨_,_,_,_,_,_,_,z⟩=>z.get (bQ gu frp) (Vr _ _ gu)) ?_ ?_
  ·rintro i y σ H4 p hy ⟨ys,o7,o8,rfl,e4,l4,a4,s4⟩ fp
   have hi:i<3:=by rw[<- lus]; exact(fj.mp hy).1
   obtain⟨d,ed,ad⟩:=au.get hy
   rw[fQ] at ed
   obtain⟨u,eu,rfl⟩:=kJ.mp ed
   have lu:u.length=3:=hs.l u (je eu)
   obtain⟨yt,yx,rfl,hyt,hyx⟩:=bx ad
   cases cu hyx
   refine⟨p,_,rfl,cB.of aC,rfl,?_⟩
   have s5:=aM fp (HO.tup [V.int (i:Nat),V.ref yt])
   generalize upd H4 p (HO.tup [V.int (i:Nat),V.ref yt])=H5 at s5 ⊢
   walk_at "rd"
   have e5:=s5 _ _ e4
   have x5:SX pr H3 H5:=s4.trans (SX.of s5)
   refine⟨.inl ⟨rfl,_,dh.of e5⟩,?_⟩
   have h1:H5 yt=some (.tup (u.map V.int)):=x5.get (bQ hyt frp) (Vr _ _ hyt)
   have h2:H5 ps=some (.lst (M.map V.int)):=x5.get (Ne.symm npr) e3
   have lt:(eY (gU x) i u).length=3:=rfl
   refine Kw (es:=(eY (gU x) i u).map PyData.int) (fun j=>[some (.int (u.getD j 0)),some (.int (M.getD j 0))]) (fun _=>rfl) (fun R hR=>?_) h1 h2 (by rw[bM,bM,lt,lu]) (by rw[bM,bM,lt,lM]) (by rw[bM,lt]; decide) (lO _) (fun j a b q H' ha hb s' hq R hR=>?_) (fun j e H' he s' R hR=>?_) (fun acc zs H6 s6 hacc hl hA=>?_)
   ·walk_at "rd"; exact hR
   ·obtain⟨_,rfl⟩:=ints_get ha
    obtain⟨_,rfl⟩:=ints_get hb
    refine⟨q,_,rfl,cB.of hq,rfl,?_⟩
    walk_at "rd"
    exact hR
   ·obtain⟨hj,rfl⟩:=lQ he
    rw[lt] at hj
    show R1 _ _ _ [some _,some _,some (.int (i:Nat))] H' R
    walk_at "rd"
    have ev:(eY (gU x) i u).getD j 0=if(gU x).getD j 0>i then u.getD j 0 else 0:=by
     unfold eY
     rw[gC,fQ,Ms hj]; rfl
    rw[ev] at hR
    rw[hN j hj]
    by_cases c1:(gU x).getD j 0>(i:Int)
    ·rw[aP (h_ (by omega))]
     rw[aP c1] at hR
     refine⟨.inr (by decide),?_⟩
     rw[Int.mul_one]
     exact hR _ _ (aG.refl _) (At.int _)
    ·rw[bB (by rw[decide_eq_true_eq]; omega)]
     rw[bB c1] at hR
     refine⟨.inr (by decide),?_⟩
     rw[Int.mul_zero]
     exact hR _ _ (aG.refl _) (At.int _)
   ·cases cu hA
    refine⟨acc,_,rfl,hl,fun l fl=>?_⟩
    have e6:=s6 _ _ e5
    have nl:l≠pr:=fun z=>by rw[z,e6] at fl; cases fl
    have s7:=aM fl (HO.tup ((eY (gU x) i u).map V.int))
    have e7:upd H6 l (HO.tup ((eY (gU x) i u).map V.int)) l=some (.tup ((eY (gU x) i u).map V.int)):=aC
    generalize upd H6 l (HO.tup ((eY (gU x) i u).map V.int))=H7 at s7 e7 ⊢
    have Wq:SX pr H4 H7:=SX.of (s5.trans (s6.trans s7))
    refine⟨pr,ys,_,rfl,rfl,s7 _ _ e6,by rw[l4]; exact bu (by omega),ys++[.ref l],_,_,rfl,aC,by rw[gH,l4]; rfl,?_,(s4.trans Wq).trans SX.upd⟩
    rw[iD,GZ,iu,iu]
    refine(a4.mono Wq).append ?_
    have eg:st.us.getD i []=u:=by rw[gC,eu]; rfl
    show ak _ [dw (eY (gU x) i (st.us.getD i []))] _
    rw[eg]
    exact ak.cons (At.tup (by rw[cG nl]; exact e7) (bw _)) ak.nil
  ·rintro σ H4 ⟨ys,o7,o8,rfl,e4,l4,a4,s4⟩
   rw[lus] at a4 l4
   have Gk:aG H H4:=SX.same frp ((SX.of Vr).trans s4)
   walk_at "rd"
   have hc:pM [V.int st.w,.int st.r,.ref sb,.int st.s,.int st.t,.ref sc] none (some 3)=[V.int st.w,.int st.r,.ref sb]:=by rw[kY (by decide)]; rfl
   refine⟨sa,_,rfl,Gk _ _ g1,fun q5 H5 s5 e5=>?_⟩
   rw[hc] at e5
   have g5:=(Gk.trans s5) _ _ g1
   refine Ix.tup g5 (v:=.int st.s) rfl (Ix.tup ((Gk.trans s5) _ _ p1) (v:=.int x.e) rfl ⟨_,_,rfl,rfl,_,_,rfl,Ix.tup g5 (v:=.int st.t) rfl ⟨pr,ys,rfl,s5 _ _ e4,fun l fl=>⟨(by decide),fun p H6 f6 s6 e6=>?_⟩⟩⟩)
   have SQ:=(aM fl (HO.tup ys)).trans s6
   refine⟨q5,p,_,_,rfl,rfl,SQ _ _ e5,e6,(show 3+3<=sizeLine by decide),fun p7 H7 s7 e7=>?_⟩
   have Wq:=s5.trans (SQ.trans s7)
   refine q (.ref p7) H7 (Gk.trans Wq) (At.tup e7 (ak.cons (At.int _) (ak.cons (At.int _) (ak.cons (At.tup ((Gk.trans Wq) _ _ g2) (bw _)) (ak.cons (At.int _) (ak.cons (At.int _) (ak.cons (At.tup (s7 _ _ (s6 _ _ aC)) ?_) ak.nil)))))))
   exact(a4.mono fW).mono Wq
noncomputable def stp (q:Int×Int) (l x:Int):Int:=if l+q.2-x<q.1 then l+q.2-x else q.1
noncomputable def FZ (c:Cv) (L:List Int):List Int:=L.foldl (iC c) (c.map (·.1))
theorem FW (c:Cv) (L:List Int) (x:Int):FZ c (L++[x])=iC c (FZ c L) x:=by
 unfold FZ
 rw[List.foldl_append]
 rfl
theorem fold_map:∀(L:List Int) (c:Cv) (g:Int×Int->Int),L.foldl (iC c) (c.map g)=c.map fun q=>L.foldl (stp q) (g q)
 | [],c,g=>rfl
 | x::L,c,g=>by
  have e:iC c (c.map g) x=c.map fun q=>stp q (g q) x:=by
   unfold iC
   rw[List.zipWith_map_right,List.zipWith_self]
   rfl
  rw[List.foldl_cons,e,fold_map L c]
  rfl
noncomputable def m8 (q:Int×Int):List Int->Int×Int
 | []=>(q.1,q.1)
 | x::S=>(if(m8 q S).2+q.2-x<(m8 q S).1 then(m8 q S).2+q.2-x else(m8 q S).1,(m8 q S).2+q.2-x)
theorem Jg (q:Int×Int):∀L,(m8 q L).1<=(m8 q L).2/\(m8 q L).1<=q.1
 | []=>⟨pJ _,pJ _⟩
 | x::S=>by
  have:=Jg q S
  simp only[m8]
  split <;> omega
theorem FT (q:Int×Int):∀(L:List Int) (b:Int),b<=q.1->L.foldl (stp q) b=if(m8 q L).2+b-q.1<(m8 q L).1 then(m8 q L).2+b-q.1 else(m8 q L).1
 | [],b,h=>by
  show b=if q.1+b-q.1<q.1 then q.1+b-q.1 else q.1
  by_cases z:q.1+b-q.1<q.1
  ·rw[aP z]; omega
  ·rw[bB z]; omega
 | x::S,b,h=>by
  have h0:=Jg q S
  rw[List.foldl_cons,FT q S (stp q b x) (by unfold stp; split <;> omega)]
  simp only[m8]
  unfold stp
  split <;> split <;> split <;> split <;> omega
theorem Wk (c:Cv) (L:List Int):FZ c L=c.map fun q=>(m8 q L).1:=by
 unfold FZ
 rw[fold_map]
 refine List.map_congr_left fun q _=>?_
 rw[FT q L q.1 (pJ _)]
 have:=Jg q L
 split <;> omega
noncomputable def Yz:Sp:=fun vs H Q _=>∃(cv:V) (l:Addr) (c:Cv) (L:List Int),vs=[cv,.ref l]/\At H (Fo c) cv/\H l=some (.lst (L.map V.int))/\c.length<=100/\L.length<=1000/\∀p H',aG H H'->H' p=some (.tup ((FZ c L).map V.int))->Q (.ref p) H'
theorem ur:bf ["_law_curve_here","_law_load","_law_found","_law_burst","_law_rate","_law_least_here","_law_left","_law_come"] ["_law_curve_here","_law_load"] (aK qb):=(by walk_at "c")
theorem Hm (F:jr K "_law_spares" "_law_spares" qb f fd) (B:Bi mg):bZ P w K mg base jj (k+1) f fd ["_law_curve_here","_law_load"] Yz:=by
 refine F.ok ur (by rintro vs H Q E ⟨cv,l,c,L,rfl,_⟩; rfl) (fun cdv A outer s H vs Q E hr h=>?_)
 obtain⟨cv,l,c,L,rfl,a1,hl,lc,lL,q⟩:=h
 have ND:=ur.nd
 refine⟨_,(aq (aZ (i:=2) ND rfl (by walk_at "o") (bL aj)) (aq (gb PassesOwn.never rfl (fU (K:=K) rfl (pv 0)) (bH (K:=K) (n:=2) rfl rfl (aD (aF (i:=3) ND rfl (by walk_at "o")) (aD (aF (i:=4) ND rfl (by walk_at "o")) bG))) (aq (mD (i:=5) (j:=6) rfl ND rfl rfl (by decide) rfl rfl (aa (pv 3) (aa (pv 3) aj)) (by rfl)) (aq (gb PassesOwn.never rfl (jK (K:=K) rfl (MJ (K:=K) rfl (pv 1) (du (Hk vK ao)))) (aF (i:=7) ND rfl (by walk_at "o")) (aq (aZ (i:=6) ND rfl (by walk_at "o") (aV dR (aV bD (pv 6) (pv 4)) (pv 7))) (aH (aZ (i:=5) ND rfl (by walk_at "o") (pb (dz rfl) B.min gk (aa (pv 5) (aa (pv 6) aj))))))) (aH (iw (gJ (K:=K) rfl PySem.F.plainAttrs_list PySem.F.slot_list_append PySem.F.type_list_append fG (pv 2) (aa (pv 5) aj))))))) (aH (a_ (pt (b8) B.tuple cg (aa (pv 2) aj)))))),?_⟩
 walk_at "rd"
 refine⟨e_ _,fun pf H1 f1 s1 e1=>?_⟩
 rw[nF]
 walk_at "rd"
 obtain⟨ca,xs,rfl,hc,hA⟩:=bx a1
 have lxs:xs.length=c.length:=by rw[hA.length,bM]
 refine TK.of (s1 _ _ hc) (fun i σ H'=>∃(o3 o4 o5 o6 o7:Option V),σ=[some (.ref ca),some (.ref l),some (.ref pf),o3,o4,o5,o6,o7]/\H' pf=some (.lst (((c.take i).map fun q=>(m8 q L).1).map V.int))/\SX pf H H') ⟨_,_,_,_,_,rfl,e1,SX.of s1⟩ (fun i σ H' _ ⟨_,_,_,_,_,_,_,z⟩=>(SX.same f1 z) _ _ hc) ?_ ?_
 ·rintro i y σ H2 hy ⟨o3,o4,o5,o6,o7,rfl,e2,s2⟩
  obtain⟨ya,rfl,hi,gy⟩:=uc hA hy
  have S2:=SX.same f1 s2
  refine⟨ya,_,rfl,cB.of (S2 _ _ gy),rfl,?_⟩
  generalize hq:c.getD i (0,0)=qq at gy
  have hqi:c[i]?=some qq:=by rw[fD hi,<- hq,gC,fD hi]; rfl
  walk_at "rd"
  refine⟨_,_,rfl,?_⟩
  rw[FP]
  unfold RQ
  walk_at "rd"
  refine⟨trivial,l,_,rfl,dh.of (S2 _ _ hl),fun p3 f3=>?_⟩
  have s3:=aM f3 (HO.lst (L.map V.int).reverse)
  have e3:upd H2 p3 (HO.lst (L.map V.int).reverse) p3=some (.lst (L.reverse.map V.int)):=by rw[aC,List.map_reverse]
  generalize upd H2 p3 (HO.lst (L.map V.int).reverse)=H3 at s3 e3 ⊢
  refine LK.of e3 (fun j σ H'=>∃(o7:Option V),σ=[some (.ref ca),some (.ref l),some (.ref pf),some (.int qq.1),some (.int qq.2),some (.int (m8 qq (L.reverse.take j).reverse).1),some (.int (m8 qq (L.reverse.take j).reverse).2),o7]/\H3=H') ⟨_,rfl,rfl⟩ (fun j σ H' _ ⟨_,_,z⟩=>z▸e3) ?_ ?_
  ·rintro j z σ H4 hz ⟨o7,rfl,rfl⟩
   rw[fQ] at hz
   obtain⟨xx,ex,rfl⟩:=kJ.mp hz
   have et:(L.reverse.take (j+1)).reverse=xx::(L.reverse.take j).reverse:=by rw[take_snoc ex,List.reverse_append]; rfl
   rw[et]
   generalize (L.reverse.take j).reverse=S
   walk_at "rd"
   exact⟨_,rfl,trivial⟩
  ·rintro σ H4 ⟨o7,rfl,rfl⟩
   rw[bM,pL,List.reverse_reverse]
   walk_at "rd"
   refine⟨.inl ⟨rfl,_,dh.of (s3 _ _ e2)⟩,pf,_,_,rfl,rfl,s3 _ _ e2,by rw[bM,bM,jG]; exact bu (by omega),_,_,_,_,_,rfl,?_,(s2.trans (SX.of s3)).trans SX.upd⟩
   rw[aC,take_snoc hqi]
   simp
 ·rintro σ H2 ⟨o3,o4,o5,o6,o7,rfl,e2,s2⟩
  rw[lxs,pL,<- Wk] at e2
  walk_at "rd"
  refine⟨pf,_,rfl,e2,fun p3 f3=>q p3 _ ((SX.same f1 s2).trans (aM f3 _)) aC⟩
section
variable {x:dB} {c:Cv} {st:dX}
theorem rE {es r:List En} (hq:uY es):∀f p,p<es.length->c7 (es++r) f p=c7 es f p
 | 0,_,_=>rfl
 | f+1,p,hp=>by
  unfold c7
  rw[su hp]
  cases e:(eO es p).fr with
  | none=>rfl
  | some qc=>
   obtain⟨q,cc⟩:=qc
   show c7 (es++r) f q++[cc]=c7 es f q++[cc]
   rw[rE hq f q (by have:=hq p q cc hp e; omega)]
theorem aam {n p cc:Nat} (hn:(aO x c st n).length=n) (hp:p<(aO x c st p).length) (hc:cc<=qI c (eO (aO x c st p) p)):∃r,aO x c st n=bT x c st p cc++r:=by
 have hpn:p<n:=by have:=jP hn p; omega
 obtain⟨r1,h1⟩:=vh (x:=x) (c:=c) (st:=st) p cc (qI c (eO (aO x c st p) p)-cc)
 rw[show cc+(qI c (eO (aO x c st p) p)-cc)=qI c (eO (aO x c st p) p) by omega,<- oA hp] at h1
 obtain⟨r2,h2⟩:=pF (x:=x) (cv:=c) (st:=st) (p+1) (n-(p+1))
 rw[show p+1+(n-(p+1))=n by omega,h1,wR] at h2
 exact⟨_,h2⟩
theorem Vp {b:Option Int} {lim:Int} {n p cc:Nat} (hn:(aO x c st n).length=n) (Bk:lY x c st b lim p cc):K7 x c st p cc=c7 (aO x c st n) n p++[(cc:Int)]:=by
 unfold K7
 obtain⟨r,hr⟩:=aam hn Bk.hp (jt Bk.hc)
 have hf:=xj (c:=cc) Bk.hp
 have hpl:p<(bT x c st p cc).length:=by have:=oZ (x:=x) (cv:=c) (st:=st) (p:=p) (c:=cc); have:=Bk.hp; omega
 have hl:(bT x c st p cc).length<=n:=by
  have:=nZ List.length hr
  rw[hn,gH] at this
  omega
 rw[hr,rE hf _ _ hpl,tU hf p _ n hpl hpl (by omega)]
end
theorem Qd {H:Hp} {c:Cv} {i:Nat} {e:PyData} (h:((c.map (·.1)).map PyData.int)[i]?=some e):i<c.length/\e=.int (c.getD i (0,0)).1:=by
 rw[fQ,fQ] at h
 cases hc:c[i]? with
 | none=>rw[hc] at h; cases h
 | some q=>
  rw[hc] at h
  cases h
  exact⟨(fj.mp hc).1,by rw[gC,hc]; rfl⟩
noncomputable def Fq (c:Cv) (l ll:Addr) (H:Hp) (es:List En) (zs:List V):Prop:=zs.length=es.length/\∀(i:Nat) (z:V),zs[i]?=some z->∃(a:Addr) (L:List Int),z=.ref a/\H a=some (.lst (L.map V.int))/\a≠l/\a≠ll/\FZ c L=(eO es i).sp/\L.length<=i/\L=c7 es es.length i
noncomputable def Met (H:Hp) (m:Addr) (es:List En):Prop:=∃kvs,jq H m kvs/\kvs.length<=es.length/\∀d,(j9 kvs d).isSome=true↔d∈es.map En.key
theorem Met.same {H H':Hp} {m:Addr} {es:List En} (h:Met H m es) (s:aG H H'):Met H' m es:=by
 obtain⟨kvs,h1,h2⟩:=h
 exact⟨kvs,h1.same s,h2⟩
theorem Fq.same {c:Cv} {l ll:Addr} {H H':Hp} {es:List En} {zs:List V} (h:Fq c l ll H es zs) (s:aG H H'):Fq c l ll H' es zs:=⟨h.1,fun i z hz=>by
 obtain⟨a,L,h1,h2,h3⟩:=h.2 i z hz
 exact⟨a,L,h1,s _ _ h2,h3⟩⟩
theorem Fq.keep {c:Cv} {l ll:Addr} {H H':Hp} {es:List En} {zs:List V} (h:Fq c l ll H es zs) (k:∀b ys,b≠l->b≠ll->H b=some (.lst ys)->H' b=some (.lst ys)):Fq c l ll H' es zs:=⟨h.1,fun i z hz=>by
 obtain⟨a,L,h1,h2,h3,h4,h5⟩:=h.2 i z hz
 exact⟨a,L,h1,k _ _ h3 h4 h2,h3,h4,h5⟩⟩
theorem Fq.snoc {c:Cv} {l ll:Addr} {H:Hp} {es:List En} {zs:List V} (h:Fq c l ll H es zs) {a:Addr} {L:List Int} {e:En} (hq:uY es) (h2:H a=some (.lst (L.map V.int))) (h3:a≠l) (h4:a≠ll) (h5:FZ c L=e.sp) (h6:L.length<=es.length) {p:Nat} {cc:Int} (hp:p<es.length) (hf:e.fr=some (p,cc)) (h7:L=c7 es es.length p++[cc]):Fq c l ll H (es++[e]) (zs++[.ref a]):=⟨by rw[gH,gH,h.1]; rfl,fun i z hz=>by
 have hl1:(es++[e]).length=es.length+1:=by rw[gH]; rfl
 by_cases z':i<zs.length
 ·rw[Gy z'] at hz
  obtain⟨a',L',k1,k2,k3,k4,k5,k6,k7⟩:=h.2 i z hz
  have hi:i<es.length:=by rw[<- h.1]; exact z'
  exact⟨a',L',k1,k2,k3,k4,by rw[su hi]; exact k5,k6,by rw[k7,hl1,rE hq _ _ hi]; exact tU hq i _ _ hi hi (by omega)⟩
 ·have hi:i=es.length:=by
   have:=(fj.mp hz).1
   rw[gH] at this
   have h1:=h.1
   simp at this
   omega
  subst hi
  rw[zj (by rw[h.1]; exact bI _),h.1,yW] at hz
  cases hz
  have ee:eO (es++[e]) es.length=e:=by unfold eO; rw[gC,zj (bI _),yW]; rfl
  refine⟨a,L,rfl,h2,h3,h4,by rw[ee]; exact h5,h6,?_⟩
  have ep:c7 (es++[e]) (es.length+1) es.length=c7 (es++[e]) es.length p++[cc]:=by
   show(match (eO (es++[e]) es.length).fr with | none=>[] | some (q,c)=>c7 (es++[e]) es.length q++[c])=_
   rw[ee,hf]
  rw[hl1,h7,ep,rE hq _ _ hp]⟩
theorem Vg {K:PySem.W.Frag} {ta:TA} {σ:St} {H:Hp} {R:VK} {c:Cv} {e:En} {w2 ca:Addr} {xs:List V} (hv:Ce c) (hE:qH c e) (hl:∀R':List V->Hp->Prop,R' [.ref w2,.ref ca] H->ta σ H R') (h3:H w2=some (.tup (e.sp.map V.int))) (hc:H ca=some (.tup xs)) (hA:ak H (c.map prD) xs)
  (fin:∀acc b r H',aG H H'->H' acc=some (.lst (V.int b::List.map V.int r))->(1+jV b r:Int)=((qI c e:Nat):Int)->R (.ref acc) H'):eV 2 [] (HH K ta) (J7 K 2 (jO (eU 0) (jO (eU 1) zu))) pY (R1 (WM fun i j=>V.int (i+j)) (uM 0) (R1 Df (uM 1) (tC (V.int 1)))) σ H R:=by
 have lxs:xs.length=c.length:=by rw[hA.length,bM]
 have ln:=hv.n
 have hze:(List.zipWith (fun p l=>p.2+l) c e.sp).length=c.length:=by rw[y_,hE.sl]; omega
 refine ud (es:=(List.zipWith (fun p l=>p.2+l) c e.sp).map PyData.int) (fun i=>[some (.int (e.sp.getD i 0)),some (xs.getD i .non)]) (fun i=>rfl) hl h3 hc (by rw[bM,bM,hze,hE.sl]) (by rw[bM,hze,lxs]) (by rw[bM,hze]; exact jt (bu (by omega))) (lO _) (fun i y y' q H' hy hy' s' hq R hR=>?_) (fun i e' H' he s' R hR=>?_) fun acc zz H8 s8 hacc hl hAA=>?_
 ·obtain⟨hi2,rfl⟩:=ints_get hy
  refine⟨q,_,rfl,cB.of hq,rfl,?_⟩
  walk_at "rd"
  rw[gC (l:=xs),hy'] at hR
  exact hR
 ·obtain⟨hi,rfl⟩:=lQ he
  rw[hze] at hi
  have hxi:xs[i]?=some (xs.getD i .non):=by rw[gC,fD (by omega)]; rfl
  obtain⟨b,eb,_,hb⟩:=uc hA hxi
  walk_at "rd"
  rw[eb]
  refine Ix.tup (s' _ _ hb) (v:=.int (c.getD i (0,0)).2) rfl ⟨_,_,rfl,rfl,hR _ _ (aG.refl _) ?_⟩
  rw[IK _ hi (by rw[hE.sl]; exact hi),Int.add_comm]
  exact At.int _
 cases cu hAA
 have hm0:=M7 hv hE.sl hE.nn
 obtain⟨b,r,hbr⟩:∃b r,List.zipWith (fun(p:Int×Int) (l:Int)=>p.2+l) c e.sp=b::r:=by
  cases hzz:List.zipWith (fun(p:Int×Int) (l:Int)=>p.2+l) c e.sp with
  | nil=>rw[hzz] at hze; exact absurd (Td.mp hze.symm) hv.ne
  | cons b r=>exact⟨b,r,rfl⟩
 have hmi:cF c e.sp=jV b r:=by unfold cF; rw[hbr]; rfl
 rw[hbr] at hl
 refine fin acc b r H8 s8 hl ?_
 rw[hmi] at hm0
 unfold qI
 rw[hmi]
 omega
noncomputable def Ga:Sp:=fun vs H Q _=>∃(v u cv:V) (x:dB) (st:dX) (c:Cv) (bd:Option Int) (lim:Int),vs=[v,u,cv,Ol bd,.int lim]/\At H (jn x) v/\At H (jk st) u/\At H (Fo c) cv/\Rb x/\K_ st/\Ce c/\cF c (c.map (·.1))<=23/\1<=lim/\lim<=900 /\
 (∀n,fJ x c st bd lim n->∀q l ll ys zs H',aG H H'->H' l=some (.lst ys)->ak H' ((aO x c st n).map iY) ys->H' ll=some (.lst zs)->Fq c l ll H' (aO x c st n) zs->H' q=some (.tup (if bd.isSome then[.str "kept",.ref l] else[.str "all",.ref l,.ref ll]))->Q (.ref q) H') /\
 (∀p cc,lY x c st bd lim p cc->∀q r H',aG H H'->H' q=some (.tup [.str "broken",.ref r])->H' r=some (.lst ((K7 x c st p cc).map V.int))->Q (.ref q) H') /\
 (∀p cc,lD x c st bd lim p cc->∀H',aG H H'->Q (.str "many") H')
theorem uv:bf ["_law_post","_law_stand","_law_curve_here","_law_bound","_law_limit","_law_entries","_law_loads","_law_met","_law_place","_law_come","_law_behind","_law_away","_law_load","_law_key"] ["_law_post","_law_stand","_law_curve_here","_law_bound","_law_limit"] (aK qd):=(by walk_at "c")
theorem Hn (F:jr K "_law_search" "_law_search" qd f fd) (B:Bi mg) (yK:Ct P w K mg base k "_law_beat" ["_law_post","_law_stand","_law_come"] CV) (HY:Ct P w K mg base k "_law_lean" ["_law_post","_law_stand"] Lw) (KY:Ct P w K mg base k "_law_spares" ["_law_curve_here","_law_load"] Yz):bZ P w K mg base jj (k+1) f fd ["_law_post","_law_stand","_law_curve_here","_law_bound","_law_limit"] Ga:=by
 refine F.ok uv (by rintro vs H Q E ⟨v,u,cv,x,st,c,bd,lim,rfl,_⟩; rfl) (fun cdv A outer s H vs Q E hr h=>?_)
 obtain⟨v,u,cv,x,st,c,bd,lim,rfl,a1,a2,a3,hx,hs,hv,hW,hl1,hl2,qD,qB,qM⟩:=h
 have ND:=uv.nd
 refine⟨_,(aq (mD (i:=5) (j:=6) rfl ND rfl rfl (by decide) rfl rfl (aa (bL (aa (aY (aa (pf HY hr (aa (pv 0) (aa (pv 1) aj))) (aa (pt (b8) B.tuple cg (aa (fu (nt:=2) (N':=["_law_burst","_law_rate"]) (js:=[]) rfl (fU (K:=K) rfl (pv 2)) jz.of (fun fp s' H'=>(bH (K:=K) (n:=2) rfl rfl (aD (aF (i:=0) (by show List.Nodup (["_law_burst","_law_rate"]:List Str); decide) rfl (.inl (iJ rfl)) (.inr (iJ rfl))) (aD (aF (i:=1) (by show List.Nodup (["_law_burst","_law_rate"]:List Str); decide) rfl (.inl (iJ rfl)) (.inr (iJ rfl))) bG)))) (fun fp s' H'=>gF) (fun fp s' H'=>(pv 0))) aj)) (aa cW (aa cW aj))))) aj)) (aa (bL (aa (bL aj) aj)) aj)) (by rfl)) (aq (mD (i:=7) (j:=8) rfl ND rfl rfl (by decide) rfl rfl (aa (P0 hr.units (cZ gB (aX aQ (pv 5) ao (fun _ _=>rfl)) eX (du ao)) rD) (aa ao aj)) (by rfl)) (aq (wZ PassesOwn.never (bc uF (pv 8) (pb (fY (K:=K) rfl) B.len mY (aa (pv 5) aj)) (bh _)) (aq (gb PassesOwn.never rfl (d_ (by rfl) B.range (aa (aV bD ao (pb (ue rfl) B.min gk (aa (fu (nt:=2) (N':=["_law_one","_law_pair"]) (js:=[]) rfl (oY (K:=K) rfl B.zip (aa (aX aQ (aX aQ (pv 5) (pv 8) (fun _ _=>rfl)) ao (fun _ _=>rfl)) (aa (pv 2) aj))) jz.of (fun fp s' H'=>(bH (K:=K) (n:=2) rfl rfl (aD (aF (i:=0) (by show List.Nodup (["_law_one","_law_pair"]:List Str); decide) rfl (.inl (iJ rfl)) (.inr (iJ rfl))) (aD (aF (i:=1) (by show List.Nodup (["_law_one","_law_pair"]:List Str); decide) rfl (.inl (iJ rfl)) (.inr (iJ rfl))) bG)))) (fun fp s' H'=>gF) (fun fp s' H'=>(aV bD (pv 0) (aX aQ (pv 1) ao (fun _ _=>rfl))))) aj))) aj)) (aF (i:=9) ND rfl (by walk_at "o")) (aq (cL (aY (aa (pf yK hr (aa (pv 0) (aa (aX aQ (aX aQ (pv 5) (pv 8) (fun _ _=>rfl)) ao (fun _ _=>rfl)) (aa (pv 9) aj)))) (aa (aV tV (aX aQ (pv 6) (pv 8) (fun _ _=>rfl)) (bL (aa (pv 9) aj))) aj))) (bH (K:=K) (n:=2) rfl rfl (aD (bH (K:=K) (n:=2) rfl rfl (aD (aF (i:=10) ND rfl (by walk_at "o")) (aD (aF (i:=11) ND rfl (by walk_at "o")) bG))) (aD (aF (i:=12) ND rfl (by walk_at "o")) bG)))) (aq (dC (PW.pt (wX (bc o_ (pv 3) cW (bh _)) (rC (PW.pt (Hf (bc jZ (aX aQ (pv 10) ao (fun _ _=>rfl)) (pv 3) (bh _)) (wW (bc jZ (pv 11) ao (bh _)))))))) (aH (a_ (aY (aa cA (aa (pv 12) aj))))) bR) (aq (aZ (i:=13) ND rfl (by walk_at "o") (aY (aa (pf HY hr (aa (pv 0) (aa (pv 10) aj))) (aa (pf KY hr (aa (pv 2) (aa (pv 12) aj))) aj)))) (aH (dC (bc (Qf hr.units) (pv 13) (pv 7) (by with_unfolding_all rfl)) (aq (dC (bc jg (pb (fY (K:=K) rfl) B.len mY (aa (pv 5) aj)) (pv 4) (bh _)) (aH (a_ cA)) bR) (aq (cL rD (qj (pv 7) (pv 13) (ZX hr.units))) (aq (iw (gJ (K:=K) rfl PySem.F.plainAttrs_list PySem.F.slot_list_append PySem.F.type_list_append fG (pv 5) (aa (aV ph (pv 13) (aY (aa (pv 8) (aa (pv 9) aj)))) aj))) (aH (iw (gJ (K:=K) rfl PySem.F.plainAttrs_list PySem.F.slot_list_append PySem.F.type_list_append fG (pv 6) (aa (pv 12) aj))))))) bR)))))) (aH (aZ (i:=8) ND rfl (by walk_at "o") (aV bD (pv 8) ao))))) (aH (a_ (eE (bc o_ (pv 3) cW (bh _)) (aY (aa cA (aa (pv 5) aj))) (aY (aa cA (aa (pv 5) (aa (pv 6) aj)))))))))),?_⟩
 simp only[Gg]
 walk_at "rd"
 refine⟨v,u,x,st,rfl,a1,a2,hx,hs.is,fun u1 H1 s1 b1=>?_⟩
 obtain⟨ca,xs,rfl,hc,hA⟩:=bx a3
 have lxs:xs.length=c.length:=by rw[hA.length,bM]
 have ln:=hv.n
 refine Oc (es:=(c.map (·.1)).map PyData.int) (fun i=>[some (.int (c.getD i (0,0)).1),some (.int (c.getD i (0,0)).2)]) (fun i=>rfl) (fun R hR=>by walk_at "rd"; exact hR) (s1 _ _ hc) (by rw[bM,bM,lxs]) (by rw[bM,bM]; exact jt (bu (by omega))) (lO _) (fun i y H' hy s' R hR=>?_) (fun i e H' he s' R hR=>?_) fun acc zz H2 s2 hacc hl hAA=>?_
 ·obtain⟨ya,rfl,hi,gy⟩:=uc hA hy
  refine⟨ya,_,rfl,cB.of ((s1.trans s') _ _ gy),rfl,?_⟩
  walk_at "rd"
  exact hR
 ·obtain⟨hi,rfl⟩:=Qd (H:=H) he
  walk_at "rd"
  exact hR _ _ (aG.refl _) (At.int _)
 cases cu hAA
 refine⟨acc,_,rfl,hl,fun p2 f2=>⟨(by decide),fun pe H3 f3 s3 e3=>⟨(by decide),fun l H4 f4 s4 e4=>⟨e_ _,fun l0 H5 f5 s5 e5=>⟨(by decide),fun ll H6 f6 s6 e6=>⟨_,_,rfl,?_⟩⟩⟩⟩⟩⟩
 have VG:=aM f2 (HO.tup ((c.map (·.1)).map V.int))
 have Zb:upd H2 p2 (HO.tup ((c.map (·.1)).map V.int)) p2=some (.tup ((c.map (·.1)).map V.int)):=aC
 generalize upd H2 p2 (HO.tup ((c.map (·.1)).map V.int))=H2' at VG Zb s3 f3
 intro m H7 f7 n7 hφ
 have s7:aG H6 H7:=by obtain⟨φ,rfl⟩:=hφ; exact aM f7 _
 clear hφ
 walk_at "rd"
 have s36:=s4.trans (s5.trans s6)
 have Z2:=s36.trans s7
 refine Ix.lst (s7 _ _ ((s5.trans s6) _ _ e4)) (v:=.ref pe) (bz (j:=0) rfl) ⟨pe,_,rfl,Z2 _ _ e3,fun p8 H8 s8 e8=>?_⟩
 rw[kY (by decide)] at e8
 have e8:H8 p8=some (.tup [u1,.ref p2]):=e8
 have s28:=s3.trans (Z2.trans s8)
 have Wr:=s2.trans (VG.trans s28)
 have k8:iI H8 (DQ (j0 x st) (c.map (·.1))) (.ref p8):=⟨xT _ _,At.tup e8 (ak.cons (b1.mono Wr) (ak.cons (At.tup (s28 _ _ Zb) (bw _)) ak.nil))⟩
 have n8:=n7.same s8
 refine⟨_,_,rfl,n8,_,k8,fun H9 p9=>⟨_,_,rfl,?_⟩⟩
 have sH6:aG H H6:=s1.trans (s2.trans (VG.trans (s3.trans s36)))
 have sH8:aG H H8:=s1.trans Wr
 have fl:H l=none:=aG.free (s1.trans (s2.trans (VG.trans s3))) f4
 have fll:H ll=none:=aG.free (s1.trans (s2.trans (VG.trans (s3.trans (s4.trans s5))))) f6
 have fm:H m=none:=aG.free sH6 f7
 have nlm:l≠ll:=fun z=>by rw[z] at e4; rw[s5 _ _ e4] at f6; cases f6
 have n0l:l0≠l:=fun z=>by rw[z,e4] at f5; cases f5
 have aeX:l0≠ll:=fun z=>by rw[<- z,e5] at f6; cases f6
 have s9:aG H H9:=eG.same p9 sH8 fm
 have s58:=s6.trans (s7.trans s8)
 have s48:=s5.trans s58
 have s68:=s7.trans s8
 have e9:H9 l=some (.lst [.ref pe]):=eG.lst n8 p9 _ _ (s48 _ _ e4)
 have g9:H9 ll=some (.lst [.ref l0]):=eG.lst n8 p9 _ _ (s68 _ _ e6)
 have a9:ak H9 ((aO x c st 0).map iY) [.ref pe]:=by
  refine ak.cons (eG.at n8 p9 (yh _) (At.tup ((Z2.trans s8) _ _ e3) (ak.cons (b1.mono Wr) (ak.cons (At.tup (s28 _ _ Zb) (bw _)) (ak.cons At.non (ak.cons At.non ak.nil)))))) ak.nil
 have d9:Fq c l ll H9 (aO x c st 0) [.ref l0]:=⟨rfl,fun i z hz=>by
  rcases i with _ | i
  ·cases hz
   exact⟨l0,[],rfl,eG.lst n8 p9 _ _ (s58 _ _ e5),n0l,aeX,rfl,bI _,rfl⟩
  ·cases hz⟩
 have m9:Met H9 m (aO x c st 0):=⟨_,p9.2,bI _,fun d=>by
  rw[Fy]
  by_cases z:d=DQ (j0 x st) (c.map (·.1))
  ·rw[aP z]
   exact⟨fun _=>by rw[z]; exact fH.mpr rfl,fun _=>rfl⟩
  ·rw[bB z]
   exact⟨fun h=>(by cases h),fun h=>absurd (fH.mp h) z⟩⟩
 clear p9 n8 n7 k8 e8 b1 Zb e3 e4 e5 e6 s28 Wr Z2 s36 s58 s48 s68 f2 f3 f4 f5 f6 f7 hl hacc hAA
 obtain⟨Wh,hWh⟩:∃Wh:Nat->St->Hp->Prop,∀mm σ H',Wh mm σ H'↔(∃(p:Nat) (ys zs:List V) (o9 Qu Qt o12 o13:Option V),σ=[some v,some u,some (.ref ca),some (Ol bd),some (.int lim),some (.ref l),some (.ref ll),some (.ref m),some (.int p),o9,Qu,Qt,o12,o13]/\mm=2000-p/\p<=(aO x c st p).length/\((aO x c st p).length:Int)<=lim/\pW x c st bd p 0/\H' l=some (.lst ys)/\ak H' ((aO x c st p).map iY) ys/\H' ll=some (.lst zs)/\Fq c l ll H' (aO x c st p) zs/\Met H' m (aO x c st p)/\aG H H'):=⟨_,fun _ _ _=>Iff.rfl⟩
 refine⟨Wh,⟨_,(hWh _ _ _).mpr ⟨0,_,_,_,_,_,_,_,rfl,rfl,e_ _,hl1,fun p' c' h=>by omega,e9,a9,g9,d9,m9,s9⟩⟩,?_⟩
 clear e9 a9 g9 d9 m9 s9
 intro mm σ H7 hw7
 obtain⟨p,ys,zs,o9,Qu,Qt,o12,o13,rfl,hmm,hp,hlen,hnb,e7,a7,g7,d7,m7,s7⟩:=(hWh _ _ _).mp hw7
 walk_at "rd"
 refine⟨l,ys,rfl,.inl (dh.of e7),?_⟩
 have hyl:ys.length=(aO x c st p).length:=by rw[a7.length,bM]
 refine⟨_,_,rfl,rfl,?_⟩
 by_cases c1:(p:Int)<ys.length
 ·rw[aP (h_ c1)]
  have hp':p<(aO x c st p).length:=by omega
  refine⟨_,fun σ' H' z=>z,?_⟩
  obtain⟨y,y1,y2⟩:=jy a7 hp'
  have hE:=mJ hx.is hv hs.is p _ (j8 hp').1
  have hcm:=Vi hE hW
  obtain⟨pe2,w1,w2,w3,w4,rfl,h1,h2,h3,h4⟩:=iG y2
  rw[vM]
  walk_at "rd"
  generalize Fj:eO (aO x c st p) p=e at hE hcm h2 h3 h4 y2
  have hWe:K_ e.st:=by rw[<- Fj]; exact(Y4 (b:=max (max st.w x.m) 0) hx hs (by omega) (by omega) (by omega) p _ (j8 hp').1).1
  refine Vg hv hE (fun R hR=>by walk_at "rd"; exact Ix.lst e7 (bz y1) (Ix.tup h1 (v:=.ref w2) rfl hR)) h3 (s7 _ _ hc) (hA.mono s7) fun acc b r H8 s8 hl aaZ=>⟨acc,b,r,rfl,hl,?_⟩
  obtain⟨Pv,hPv⟩:∃Pv:Nat->St->Hp->Prop,∀i σ H',Pv i σ H'↔(∃(ys zs:List V) (o9 Qu Qt o12 o13:Option V),σ=[some v,some u,some (.ref ca),some (Ol bd),some (.int lim),some (.ref l),some (.ref ll),some (.ref m),some (.int p),o9,Qu,Qt,o12,o13]/\((bT x c st p i).length:Int)<=lim/\pW x c st bd p i/\H' l=some (.lst ys)/\ak H' ((bT x c st p i).map iY) ys/\H' ll=some (.lst zs)/\Fq c l ll H' (bT x c st p i) zs/\Met H' m (bT x c st p i)/\aG H H'):=⟨_,fun _ _ _=>Iff.rfl⟩
  refine FK.of aaZ (by omega) Pv ((hPv _ _ _).mpr ⟨_,_,_,_,_,_,_,rfl,hlen,hnb,s8 _ _ e7,a7.mono s8,s8 _ _ g7,d7.same s8,m7.same s8,s7.trans s8⟩) ?_ ?_
  ·intro i σ H9 hi hw9
   obtain⟨ys,zs,o9,Qu,Qt,o12,o13,rfl,hl9,hb9,e9,a9,g9,d9,m9,s9⟩:=(hPv _ _ _).mp hw9
   have hi':i<qI c (eO (aO x c st p) p):=by rw[Fj]; exact hi
   have pp:p<(bT x c st p i).length:=jU hp' oZ
   have hlz:ys.length=(bT x c st p i).length:=by rw[a9.length,bM]
   obtain⟨y',y1',Ym⟩:=jy a9 pp
   rw[Ey hp',Fj] at Ym
   obtain⟨pe',x1,x2,x3,x4,rfl,j1,j2,j3,j4⟩:=iG Ym
   walk_at "rd"
   rw[Int.zero_add]
   refine Ix.lst e9 (bz y1') (Ix.tup j1 (v:=x1) rfl ⟨v,x1,x,e.st,i,rfl,a1.mono s9,j2,hx,hWe,fun p10 u10 uL nq b10 e10=>?_⟩)
   obtain⟨z,hz⟩:∃z,zs[p]?=some z:=⟨_,fD (by rw[d9.1]; exact pp)⟩
   obtain⟨la,L,rfl,q1,q2,q3,q4,q5,q6⟩:=d9.2 p z hz
   rw[Ey hp',Fj] at q4
   have hL9:L.length<=900:=by omega
   refine Ix.lst (nq _ _ g9) (bz hz) ⟨(by decide),fun p11 sG f11 pR Iw=>Dg.of ((nq.trans pR) _ _ q1) Iw (Um (by rw[bM]; show _+1<=1000; omega)) fun Rk vG Rm s12 vA=>⟨(by decide),fun pt abn ft acw et=>⟨pt,_,rfl,cB.of et,rfl,?_⟩⟩⟩
   have eL:L.map V.int++[V.int i]=(L++[(i:Int)]).map V.int:=by rw[iu]; rfl
   rw[eL] at vA
   have Rx:=pR.trans (s12.trans acw)
   have Fg:=nq.trans Rx
   have adD:=acw _ _ vA
   walk_at "rd"
   refine⟨p10,_,rfl,cB.of (Rx _ _ e10),rfl,?_⟩
   walk_at "rd"
   have b12:=b10.mono Rx
   refine eQ.of (fun σ' H'=>Et x bd e i=false/\aG abn H'/\σ'=[some v,some u,some (.ref ca),some (Ol bd),some (.int lim),some (.ref l),some (.ref ll),some (.ref m),some (.int p),some (.int i),some u10,some (.int (i-b_ x e.st i)),some (.ref Rk),o13]) ?_ ?_
   rotate_left 1
   ·intro N pU
    walk_at "rd"
    refine⟨trivial,?_⟩
    cases hbd:bd with
    | none=>
     subst hbd
     rw[bB (by decide)]
     exact pU _ _ ⟨rfl,aG.refl _,rfl⟩
    | some b=>
     subst hbd
     rw[aP (by simp[Ol])]
     obtain⟨sa,sb,sc,rfl,g1,_,_⟩:=fC b12
     have adi:Et x (some b) e i=true->2<=sizeLine/\∀q H',abn q=none->aG abn H'->H' q=some (.tup [.str "broken",.ref Rk])->Q (.ref q) H':=fun hk=>⟨(by decide),fun q H' _ s' e'=>qB p i ⟨hp',hi',hb9,by rw[Fj]; exact hk,.inr hl9⟩ q Rk H' (s9.trans (Fg.trans s')) e' (by rw[s' _ _ adD,q6]; rfl)⟩
     have eb:(decide ((ou x e.st i).w>b) || decide ((i:Int)-b_ x e.st i>0))=Et x (some b) e i:=rfl
     refine Ix.tup g1 (v:=.int (ou x e.st i).w) rfl ⟨_,_,rfl,rfl,?_⟩
     by_cases c3:b<(ou x e.st i).w
     ·rw[aP (h_ c3)]
      exact adi (by rw[<- eb,h_ c3]; rfl)
     ·rw[bB (by simpa using c3)]
      by_cases c4:0<(i:Int)-b_ x e.st i
      ·rw[aP (h_ c4)]
       exact adi (by rw[<- eb,h_ c4,Bool.or_true])
      ·rw[bB (by simpa using c4)]
       exact pU _ _ ⟨by rw[<- eb,ju c3,ju c4]; rfl,aG.refl _,rfl⟩
   rintro _ vG ⟨hbk,Z4,rfl⟩
   have hb':pW x c st bd p (i+1):=fun p' c' h1 h2 h3=>by
    by_cases z:p'=p/\c'=i
    ·obtain⟨rfl,rfl⟩:=z
     rw[Fj]; exact hbk
    ·exact hb9 p' c' (by omega) h2 h3
   have Fg:=Fg.trans Z4
   have vA:=Z4 _ _ adD
   walk_at "rd"
   refine⟨v,u10,x,ou x e.st i,rfl,(a1.mono s9).mono Fg,b12.mono Z4,hx,(hWe.next hx).is,fun u13 Iz jA b13=>⟨.ref ca,Rk,c,_,rfl,(a3.mono s9).mono (Fg.trans jA),jA _ _ vA,by omega,by rw[gH]; show _+1<=1000; omega,fun p14 Ye Dd Ku=>⟨(by decide),fun Ir La f15 Ma Ks=>?_⟩⟩⟩
   rw[FW,q4] at Ku
   have Yl:=jA.trans (Dd.trans Ma)
   have I_:=Fg.trans Yl
   have bst:At La (jk (Ex x e i)) u13:=b13.mono (Dd.trans Ma)
   have bsp:La p14=some (.tup ((iC c e.sp i).map V.int)):=Ma _ _ Ku
   have k15:iI La (mG x c e p i).key (.ref Ir):=⟨xT _ _,At.tup Ks (ak.cons bst (ak.cons (At.tup bsp (bw _)) ak.nil))⟩
   obtain⟨kvs,n9,lk,hk9⟩:=m9
   have n15:=n9.same I_
   refine⟨m,kvs,_,rfl,n15,k15,?_⟩
   have Z1:=s9.trans I_
   by_cases hk:(mG x c e p i).key∈(bT x c st p i).map En.key
   ·rw[(hk9 _).mpr hk,bB (by decide)]
    have ep:bT x c st p (i+1)=bT x c st p i:=by rw[jL,Fj,aP hk]
    refine(hPv _ _ _).mpr ?_
    rw[ep]
    exact⟨ys,zs,_,_,_,_,_,rfl,hl9,hb',I_ _ _ e9,a9.mono I_,I_ _ _ g9,d9.same I_,⟨kvs,n15,lk,hk9⟩,Z1⟩
   ·have hkf:(j9 kvs (mG x c e p i).key).isSome=false:=by
     cases hh:(j9 kvs (mG x c e p i).key).isSome with
     | false=>rfl
     | true=>exact absurd ((hk9 _).mp hh) hk
    rw[hkf,aP (by decide)]
    have ep:bT x c st p (i+1)=bT x c st p i++[mG x c e p i]:=by rw[jL,Fj,bB hk]
    refine eQ.of (fun σ' H'=>((bT x c st p i).length:Int)<lim/\σ'=[some v,some u,some (.ref ca),some (Ol bd),some (.int lim),some (.ref l),some (.ref ll),some (.ref m),some (.int p),some (.int i),some u10,some (.int (i-b_ x e.st i)),some (.ref Rk),some (.ref Ir)]/\La=H') ?_ ?_
    ·rintro _ _ ⟨hlt,rfl,rfl⟩
     walk_at "rd"
     refine⟨m,kvs,_,rfl,n15,Nat.lt_of_le_of_lt lk (bu (by omega)),k15,fun Ri Ip=>?_⟩
     have QL:=eG.lst n15 Ip _ _ (I_ _ _ e9)
     have g16:=eG.lst n15 Ip _ _ (I_ _ _ g9)
     have o16:=eG.lst n15 Ip _ _ (Yl _ _ vA)
     have a16:ak Ri ((bT x c st p i).map iY) ys:=ak.tupS (eG.tup n15 Ip) _ _ (lR _) (a9.mono I_)
     have b16:At Ri (jk (Ex x e i)) u13:=eG.at n15 Ip (CN _) bst
     have c16:=eG.tup n15 Ip _ _ bsp
     have k16:=eG.tup n15 Ip _ _ Ks
     have Dc:aG H Ri:=eG.same Ip Z1 fm
     have d16:Fq c l ll Ri (bT x c st p i) zs:=(d9.same I_).keep fun b ys _ _ hb=>eG.lst n15 Ip _ _ hb
     have YX:Rk≠l:=fun z=>by rw[z] at Rm; rw[(nq.trans pR) _ _ e9] at Rm; cases Rm
     have aax:Rk≠ll:=fun z=>by rw[z] at Rm; rw[(nq.trans pR) _ _ g9] at Rm; cases Rm
     have n16:=Ip.2
     refine⟨.inl ⟨rfl,_,dh.of QL⟩,(by decide),fun p17 H17 f17 Z3 e17=>⟨Ir,p17,_,_,rfl,rfl,Z3 _ _ k16,e17,(show 2+2<=sizeLine by decide),fun Rj Yd Wr e18=>⟨l,ys,_,rfl,rfl,(Z3.trans Wr) _ _ QL,by rw[hlz]; exact bu (by omega),?_⟩⟩⟩
     have qX:=Z3.trans Wr
     have adz:=qX _ _ QL
     have tk:∀b xs,Yd b=some (.tup xs)->upd Yd l (.lst (ys++[.ref Rj])) b=some (.tup xs):=fun b xs hb=>by
      rw[aR (fun z=>by rw[z,adz] at hb; cases hb)]; exact hb
     have a19:ak (upd Yd l (.lst (ys++[.ref Rj]))) ((bT x c st p (i+1)).map iY) (ys++[.ref Rj]):=by
      rw[ep,iu]
      refine ak.tupS tk _ _ (by rw[<- List.map_singleton,<- iu]; exact lR _) ((a16.mono qX).append (ak.cons ?_ ak.nil))
      exact At.tup e18 (ak.cons (b16.mono qX) (ak.cons (At.tup (qX _ _ c16) (bw _)) (ak.cons (At.int _) (ak.cons (At.int _) ak.nil))))
     have n19:=(n16.same qX).V9 (o:=.lst (ys++[.ref Rj])) adz
     have s19:aG H (upd Yd l (.lst (ys++[.ref Rj]))):=(Dc.trans qX).eZ fl
     have g19:upd Yd l (.lst (ys++[.ref Rj])) ll=some (.lst zs):=by rw[aR (Ne.symm nlm)]; exact qX _ _ g16
     have d19:Fq c l ll (upd Yd l (.lst (ys++[.ref Rj]))) (bT x c st p i) zs:=(d16.same qX).keep fun b zz hb _ h=>by rw[aR hb]; exact h
     have o19:upd Yd l (.lst (ys++[.ref Rj])) Rk=some (.lst ((L++[(i:Int)]).map V.int)):=by rw[aR YX]; exact qX _ _ o16
     have e19:upd Yd l (.lst (ys++[.ref Rj])) l=some (.lst (ys++[.ref Rj])):=aC
     generalize upd Yd l (.lst (ys++[.ref Rj]))=H19 at a19 n19 s19 g19 d19 o19 e19 ⊢
     refine⟨.inl ⟨rfl,_,dh.of g19⟩,ll,zs,_,rfl,rfl,g19,by rw[d9.1]; exact bu (by omega),?_⟩
     have tk2:∀b xs,H19 b=some (.tup xs)->upd H19 ll (.lst (zs++[.ref Rk])) b=some (.tup xs):=fun b xs hb=>by
      rw[aR (fun z=>by rw[z,g19] at hb; cases hb)]; exact hb
     refine(hPv _ _ _).mpr ⟨ys++[.ref Rj],zs++[.ref Rk],_,_,_,_,_,rfl,?_,hb',by rw[aR nlm]; exact e19,ak.tupS tk2 _ _ (lR _) a19,aC,?_,⟨_,n19.V9 g19,?_,fun d=>?_⟩,s19.eZ fll⟩
     ·rw[ep,gH]
      show((_+1:Nat):Int)<=lim
      omega
     ·rw[ep]
      refine(d19.snoc (xj hp') o19 YX aax ?_ ?_ pp rfl (by rw[q6])).keep fun b zz _ hb h=>by rw[aR hb]; exact h
      ·rw[FW,q4]; rfl
      ·rw[gH]; show _+1<=_; omega
     ·rw[ep,gH]
      exact n_ (Tq _ _ _) (by show _<=_+1; omega)
     ·rw[Fy,ep,iu]
      by_cases z:d=(mG x c e p i).key
      ·rw[aP z]
       exact⟨fun _=>jf _ (by rw[z]; exact fH.mpr rfl),fun _=>rfl⟩
      ·rw[bB z,hk9 d]
       exact⟨fun h=>Hd _ h,fun h=>(m_.mp h).elim id fun h=>absurd (fH.mp h) z⟩
    ·intro N pU
     walk_at "rd"
     refine⟨l,ys,rfl,.inl (dh.of (I_ _ _ e9)),?_⟩
     walk_at "rd"
     by_cases c2:(ys.length:Int)=lim
     ·rw[aP (by simpa using c2)]
      exact qM p i ⟨hp',hi',hb',by rw[Fj]; exact hk,by omega⟩ La Z1
     ·rw[bB (by simpa using c2)]
      exact pU _ _ ⟨by omega,rfl,rfl⟩
  ·intro σ H9 hw9
   obtain⟨ys,zs,o9,Qu,Qt,o12,o13,rfl,hl9,hb9,e9,a9,g9,d9,m9,s9⟩:=(hPv _ _ _).mp hw9
   rw[<- Fj] at hl9 hb9 a9 d9 m9
   rw[<- oA hp'] at hl9 a9 d9 m9
   walk_at "rd"
   refine⟨_,by omega,(hWh _ _ _).mpr ⟨p+1,ys,zs,_,_,_,_,_,rfl,rfl,?_,hl9,fun p' c' h1 h2 h3=>?_,e9,a9,g9,d9,m9,s9⟩⟩
   ·have:=rM (x:=x) (cv:=c) (st:=st) (show p<=p+1 by omega)
    omega
   ·by_cases z:p'=p
    ·subst z; exact hb9 _ c' (.inr ⟨rfl,h3⟩) h2 h3
    ·exact hb9 p' c' (.inl (by omega)) h2 h3
 ·rw[bB (by simpa using c1)]
  have ep:(aO x c st p).length=p:=by omega
  refine⟨trivial,?_⟩
  cases hbd:bd with
  | none=>
   subst hbd
   rw[bB (by decide)]
   refine⟨(by decide),fun q H8 f8 s8 e8=>qD p ⟨ep,hnb,.inr (by omega)⟩ q l ll ys zs H8 (s7.trans s8) (s8 _ _ e7) (a7.mono s8) (s8 _ _ g7) (d7.same s8) e8⟩
  | some b=>
   subst hbd
   rw[aP (by simp[Ol])]
   refine⟨(by decide),fun q H8 f8 s8 e8=>qD p ⟨ep,hnb,.inr (by omega)⟩ q l ll ys zs H8 (s7.trans s8) (s8 _ _ e7) (a7.mono s8) (s8 _ _ g7) (d7.same s8) e8⟩
variable {cH dG dH cP cO cN dF cM aJ aL:Addr}
noncomputable def Sv:Sp:=fun vs H Q _=>∃(v u cv:V) (x:dB) (st:dX) (c:Cv) (bd:Option Int) (lim:Int),vs=[v,u,cv,Ol bd,.int lim]/\At H (jn x) v/\At H (jk st) u/\At H (Fo c) cv/\oW x/\Vw x/\jo st/\Ce c/\cF c (c.map (·.1))<=23/\1<=lim/\lim<=900 /\
 ∀d v' H',Ft x c st (bd.getD 0) lim (if bd.isSome then 1 else 2) d->aG H H'->At H' d v'->Q v' H'
theorem v_:bf ["_law_post","_law_stand","_law_curve_here","_law_bound","_law_limit","_law_found","_law_caught","error"] ["_law_post","_law_stand","_law_curve_here","_law_bound","_law_limit"] (aK tH):=(by walk_at "c")
theorem JV (F:jr K "_law_asked" "_law_asked" tH f fd) (B:Bi mg) (Z:ZM K mg cH dG dH cP cO cN dF cM aJ aL) (lX:VM P w K mg base k "opened" ["post","stand","curve","bound","limit"] 300 (vP aJ aL)) (lg:VM P w K mg base k "least_bound" ["post","stand","curve","limit"] 300 (Lp aJ aL)) (Q5:Ct P w K mg base k "_law_class" ["_law_caught"] (LC aJ aL)) :
  bZ P w K mg base jj (k+1) f fd ["_law_post","_law_stand","_law_curve_here","_law_bound","_law_limit"] Sv:=by
 refine F.ok v_ (by rintro vs H Q E ⟨v,u,cv,x,st,c,bd,lim,rfl,_⟩; rfl) (fun cdv A outer s H vs Q E hr h=>?_)
 obtain⟨v,u,cv,x,st,c,bd,lim,rfl,a1,a2,a3,hx,hn,hs,hv,hW,hl1,hl9,qA⟩:=h
 have ND:=v_.nd
 refine⟨_,(aq (cL (aY (aa cW (aa cW aj))) (bH (K:=K) (n:=2) rfl rfl (aD (aF (i:=5) ND rfl (by walk_at "o")) (aD (aF (i:=6) ND rfl (by walk_at "o")) bG)))) (aq (WN (K:=K) (ie:=7) rfl (wY (aae (bc Dn (pv 3) cW (bh _)) (wY (Mx (i:=5) ND (Mw lg.all hr (aa (pv 0) (aa (pv 1) (aa (pv 2) (aa (pv 4) aj))))))) (wY (Mx (i:=5) ND (Mw lX.all hr (aa (pv 0) (aa (pv 1) (aa (pv 2) (aa (pv 3) (aa (pv 4) aj)))))))))) (fun e=>(aH (aZ (i:=6) ND rfl (by walk_at "o") (pv 7)))) ND Z.Rh) (aH (a_ (eE (bc Dn (pv 6) cW (bh _)) (pv 5) (pf Q5 hr (aa (pv 6) aj))))))),?_⟩
 walk_at "rd"
 unfold Yq
 walk_at "rd"
 refine⟨by decide,fun p0 H0 f0 s0 e0=>⟨p0,_,rfl,cB.of e0,rfl,?_⟩⟩
 walk_at "rd"
 refine⟨trivial,?_⟩
 cases bd with
 | none=>
  rw[aP (by decide)]
  refine⟨v,u,cv,x,st,c,lim,rfl,a1.mono s0,a2.mono s0,a3.mono s0,hx,hn,hs,hv,by omega,hl9,fun hW'=>absurd hW (by omega),fun _ n D D2 j q r H' hj s' f' e1 e'=>?_,fun _ n p cc D Bk q r H' s' f' e1 e'=>?_,fun _ p cc M H' sE=>⟨Z.yj,fun a H3 s3 hX=>?_⟩⟩
  ·refine⟨trivial,?_⟩
   rw[aP (by decide)]
   exact qA _ _ H' (.lbD n j D D2 hj) (s0.trans s') (At.tup e1 (ak.cons (At.int _) (ak.cons (At.lst e' (bw _)) ak.nil)))
  ·refine⟨trivial,?_⟩
   rw[aP (by decide)]
   exact qA _ _ H' (.lbB n p cc D Bk) (s0.trans s') (At.tup e1 (ak.cons At.non (ak.cons (At.lst e' (bw _)) ak.nil)))
  ·simp only[List.set]
   walk_at "rd"
   refine⟨trivial,?_⟩
   rw[bB (by simp)]
   exact⟨a,_,rfl,hX,.inl rfl,fun _ H' s'=>qA _ _ H' (.lbM p cc M) (s0.trans ((s3 sE).trans s')) (At.str _),(fun e=>by have z:=Z.aaR; rw[<- e,Z.aaS] at z; cases z)⟩
 | some b=>
  rw[bB (by show ¬(decide (V.int b=V.non)=true); simp)]
  refine⟨v,u,cv,x,st,c,b,lim,rfl,a1.mono s0,a2.mono s0,a3.mono s0,hx,hn,hs,hv,by omega,hl9,fun hW'=>absurd hW (by omega),fun _ n D q l ys H' s' f' e1 e' A'=>?_,fun _ p cc Bk q r H' s' f' e1 e'=>?_,fun _ p cc M H' sE=>⟨Z.yj,fun a H3 s3 hX=>?_⟩⟩
  ·refine⟨trivial,?_⟩
   rw[aP (by decide)]
   exact qA _ _ H' (.opD n D) (s0.trans s') (At.tup e1 (ak.cons (At.str _) (ak.cons (At.lst e' A') ak.nil)))
  ·refine⟨trivial,?_⟩
   rw[aP (by decide)]
   exact qA _ _ H' (.opB p cc Bk) (s0.trans s') (At.tup e1 (ak.cons (At.str _) (ak.cons (At.lst e' (bw _)) ak.nil)))
  ·simp only[List.set]
   walk_at "rd"
   refine⟨trivial,?_⟩
   rw[bB (by simp)]
   exact⟨a,_,rfl,hX,.inl rfl,fun _ H' s'=>qA _ _ H' (.opM p cc M) (s0.trans ((s3 sE).trans s')) (At.str _),(fun e=>by have z:=Z.aaR; rw[<- e,Z.aaS] at z; cases z)⟩
theorem XC {a b:En} (h:a.key=b.key):a.st=b.st/\a.sp=b.sp:=by
 unfold En.key DQ at h
 injection h with h
 injection h with h1 h2
 injection h2 with h2 _
 have hs:PyData.eqv (jk a.st) (jk b.st)=true:=by rw[h1]; exact SeqAt.eqv_refl _ (Wg b.st).2.1
 refine⟨(aa4 _ _).mp hs,?_⟩
 injection h2 with h2
 exact(List.map_inj_right (fun a b e=>by injection e)).mp h2
section
variable {x:dB} {c:Cv} {st:dX}
theorem MT (p:Nat):∀k cc,cc<k->(mG x c (eO (aO x c st p) p) p cc).key∈(bT x c st p k).map En.key
 | 0,cc,h=>by omega
 | k+1,cc,h=>by
  rw[jL]
  by_cases e:cc=k
  ·subst e
   split
   ·assumption
   ·rw[iu]; exact jf _ (by simp)
  ·have ih:=MT p k cc (by omega)
   split
   ·exact ih
   ·rw[iu]; exact Hd _ ih
theorem J2 {n p:Nat} (hn:(aO x c st n).length=n) (hp:p<n):p<(aO x c st p).length/\eO (aO x c st n) p=eO (aO x c st p) p:=by
 have h1:p<(aO x c st p).length:=by
  by_cases z:p<(aO x c st p).length
  ·exact z
  ·have e1:∀d,aO x c st (p+d)=aO x c st p:=fun d=>by
    induction d with
    | zero=>rfl
    | succ d ih=>rw[<- Gp,fV,ih,bB (by omega)]
   have:=e1 (n-p)
   rw[show p+(n-p)=n by omega] at this
   rw[this] at hn
   omega
 refine⟨h1,?_⟩
 obtain⟨r,hr⟩:=pF (x:=x) (cv:=c) (st:=st) p (n-p)
 rw[show p+(n-p)=n by omega] at hr
 rw[hr,su h1]
theorem Kv {n p cc q:Nat} (hn:(aO x c st n).length=n) (hp:p<n) (hc:cc<qI c (eO (aO x c st n) p)):(mG x c (eO (aO x c st n) p) q cc).key∈(aO x c st n).map En.key:=by
 obtain⟨h1,h2⟩:=J2 hn hp
 rw[h2] at hc ⊢
 have h3:=MT (x:=x) (c:=c) (st:=st) p _ cc hc
 rw[<- oA h1] at h3
 obtain⟨r,hr⟩:=pF (x:=x) (cv:=c) (st:=st) (p+1) (n-(p+1))
 rw[show p+1+(n-(p+1))=n by omega] at hr
 rw[hr,iu]
 exact Hd _ h3
theorem abd {n p cc:Nat} (hn:(aO x c st n).length=n) (hp:p<n) (hc:cc<qI c (eO (aO x c st n) p)):(Ex x (eO (aO x c st n) p) cc).w<=mW (aO x c st n):=by
 obtain⟨e,he,hk⟩:=iK.mp (Kv (q:=p) hn hp hc)
 obtain⟨h1,_⟩:=XC hk
 have h1:e.st=Ex x (eO (aO x c st n) p) cc:=h1
 rw[<- h1]
 exact(Ug (fun z=>by rw[z] at he; cases he)).2 _ (iK.mpr ⟨e,he,rfl⟩)
theorem Vq {n p cc:Nat} (hn:(aO x c st n).length=n) (hp:p<n) (hc:cc<qI c (eO (aO x c st n) p)):Et x (some (mW (aO x c st n))) (eO (aO x c st n) p) cc=decide (B_ x (eO (aO x c st n) p) cc>0):=by
 have:=abd hn hp hc
 show(decide _ || decide _)=_
 rw[ju (by omega)]
 rfl
noncomputable def abk (x:dB) (c:Cv) (es:List En) (p cc:Nat):Prop:=∀p' c':Nat,(p'<p\/p'=p/\c'<cc)->p'<es.length->c'<qI c (eO es p')->¬0<B_ x (eO es p') c'
theorem Bg {n p cc:Nat} (hn:(aO x c st n).length=n) (h:abk x c (aO x c st n) p cc):pW x c st (some (mW (aO x c st n))) p cc:=fun p' c' h1 h2 h3=>by
 have hp':p'<n:=by have:=jP hn p'; omega
 obtain⟨_,e⟩:=J2 hn hp'
 rw[<- e] at h3 ⊢
 rw[Vq hn hp' h3]
 exact ju (h p' c' h1 (by rw[hn]; exact hp') h3)
end
theorem Oo {H:Hp}:∀{xs:List V} {ds:List PyData},xs.length=ds.length->(∀(i:Nat) (x:V) (d:PyData),xs[i]?=some x->ds[i]?=some d->At H d x)->ak H ds xs
 | [],[],_,_=>ak.nil
 | x::xs,d::ds,hl,h=>ak.cons (h 0 x d rfl rfl) (Oo (by simpa using hl) fun i y e hy he=>h (i+1) y e hy he)
noncomputable def Hx (es:List En):PyData:=.list ((List.range es.length).map fun i=>xX (c7 es es.length i))
theorem Fq.at {c:Cv} {l ll:Addr} {H:Hp} {es:List En} {zs:List V} (h:Fq c l ll H es zs) (hl:H ll=some (.lst zs)):At H (Hx es) (.ref ll):=At.lst hl (Oo (by rw[bM,Be,h.1]) fun i z d hz hd=>by
 obtain⟨a,L,rfl,h2,_,_,_,_,h7⟩:=h.2 i z hz
 rw[fQ,Ms (by rw[<- h.1]; exact(fj.mp hz).1)] at hd
 cases hd
 show At H (xX (c7 es es.length i)) _
 rw[<- h7]
 exact At.lst h2 (bw _))
theorem Xl {es:List En} (hq:uY es) (hl:es.length<=900):SD 7 (Hx es):=SD.lst (by rw[bM,Be]; omega) fun e he=>by
 obtain⟨i,_,rfl⟩:=iK.mp he
 exact SD.Ux (n:=4) (by have:=oh hq es.length i; omega)
noncomputable def YB:Sp:=fun vs H Q _=>∃(v cv w':V) (x:dB) (c:Cv) (st:dX) (lim:Int),vs=[v,cv,w']/\((w'=.str "many" /\ Q (.str "many") H)\/∃(q l ll:Addr) (ys zs:List V) (n:Nat),w'=.ref q/\H q=some (.tup [.str "all",.ref l,.ref ll])/\H l=some (.lst ys)/\ak H ((aO x c st n).map iY) ys/\H ll=some (.lst zs)/\Fq c l ll H (aO x c st n) zs/\fJ x c st none lim n/\lim<=900/\1<=lim /\
 At H (jn x) v/\At H (Fo c) cv/\Rb x/\K_ st/\Ce c/\cF c (c.map (·.1))<=23/\∀d v' H',Ft x c st 0 lim 2 d->aG H H'->At H' d v'->Q v' H')
theorem vX:bf ["_law_post","_law_curve_here","_law_found","_law_entry","_law_load","_law_come","_law_waits"] ["_law_post","_law_curve_here","_law_found"] (aK tu):=(by walk_at "c")
theorem JR (F:jr K "_law_least" "_law_least" tu f fd) (B:Bi mg) (yK:Ct P w K mg base k "_law_beat" ["_law_post","_law_stand","_law_come"] CV):bZ P w K mg base jj (k+1) f fd ["_law_post","_law_curve_here","_law_found"] YB:=by
 refine F.ok vX (by rintro vs H Q E ⟨v,cv,w',x,c,st,lim,rfl,_⟩; rfl) (fun cdv A outer s H vs Q E hr h=>?_)
 obtain⟨v,cv,w',x,c,st,lim,rfl,h⟩:=h
 have ND:=vX.nd
 refine⟨_,(aq (dC (bc (Dp hr.units) (pv 2) cA (bh _)) (aH (a_ cA)) bR) (aq (gb PassesOwn.never rfl (Mz (K:=K) rfl B.zip (aa (aX aQ (pv 2) ao (fun _ _=>rfl)) (aa (aX aQ (pv 2) ao (fun _ _=>rfl)) aj))) (bH (K:=K) (n:=2) rfl rfl (aD (aF (i:=3) ND rfl (by walk_at "o")) (aD (aF (i:=4) ND rfl (by walk_at "o")) bG))) (aH (gb PassesOwn.never rfl (d_ (by rfl) B.range (aa (aV bD ao (pb (ue rfl) B.min gk (aa (fu (nt:=2) (N':=["_law_one","_law_pair"]) (js:=[]) rfl (oY (K:=K) rfl B.zip (aa (aX aQ (pv 3) ao (fun _ _=>rfl)) (aa (pv 1) aj))) jz.of (fun fp s' H'=>(bH (K:=K) (n:=2) rfl rfl (aD (aF (i:=0) (by show List.Nodup (["_law_one","_law_pair"]:List Str); decide) rfl (.inl (iJ rfl)) (.inr (iJ rfl))) (aD (aF (i:=1) (by show List.Nodup (["_law_one","_law_pair"]:List Str); decide) rfl (.inl (iJ rfl)) (.inr (iJ rfl))) bG)))) (fun fp s' H'=>gF) (fun fp s' H'=>(aV bD (pv 0) (aX aQ (pv 1) ao (fun _ _=>rfl))))) aj))) aj)) (aF (i:=5) ND rfl (by walk_at "o")) (aH (dC (bc jZ (aX aQ (pf yK hr (aa (pv 0) (aa (aX aQ (pv 3) ao (fun _ _=>rfl)) (aa (pv 5) aj)))) ao (fun _ _=>rfl)) ao (bh _)) (aH (a_ (aY (aa cW (aa (aV tV (pv 4) (bL (aa (pv 5) aj))) aj))))) bR))))) (aq (vg (i:=6) ND rfl (by walk_at "o") (N':=["_law_entry"]) (js:=[]) rfl (jK (K:=K) rfl (aX aQ (pv 2) ao (fun _ _=>rfl))) yP.mk0 rfl (by decide) rfl (fun fp s' H'=>(aX aQ (aX aQ (pv 0) ao (fun _ _=>rfl)) ao (fun _ _=>rfl)))) (aH (a_ (aY (aa (pb (pI rfl) B.max iH (aa (pv 6) aj)) (aa (aX aQ (aX aQ (pv 2) ao (fun _ _=>rfl)) (gJ (K:=K) rfl PySem.F.plainAttrs_list PySem.F.slot_list_index PySem.F.type_list_index xM (pv 6) (aa (pb (pI rfl) B.max iH (aa (pv 6) aj)) aj)) (fun _ _=>rfl)) aj)))))))),?_⟩
 simp only[Gg]
 rcases h with⟨rfl,q⟩ | ⟨q,l,ll,ys,zs,n,rfl,hq,hl,hA,hll,hL,D,hm9,hm1,a1,a3,hx,hs,hv,hW,qA⟩
 ·refine eQ.of (fun _ _=>False) (fun _ _ h=>h.elim) fun N hN=>?_
  walk_at "rd"
  refine⟨.str "many",.str "many",At.str _,At.str _,rfl,rfl,by decide +kernel,by decide +kernel,by decide,?_⟩
  rw[show PyData.eqv (.str "many") (.str "many")=true from by decide +kernel,aP rfl]
  exact q
 ·have hnl:n<=900:=by have:=D.hl; omega
  have hlen:(aO x c st n).length=n:=D.hn
  have dat:At H (.tuple [.str "all",BK (aO x c st n),Hx (aO x c st n)]) (.ref q):=At.tup hq (ak.cons (At.str _) (ak.cons (At.lst hl hA) (ak.cons (hL.at hll) ak.nil)))
  refine eQ.on (fun H1 s1=>?_) fun N hN=>?_
  ·obtain⟨ca,xs,rfl,hc,hcA⟩:=bx a3
   have lxs:xs.length=c.length:=by rw[hcA.length,bM]
   have ln:=hv.n
   have hyl:ys.length=n:=by rw[hA.length,bM,hlen]
   have hzl:zs.length=n:=by rw[hL.1,hlen]
   walk_at "rd"
   rw[O5]
   walk_at "rd"
   refine Ix.tup (s1 _ _ hq) (v:=.ref l) rfl (Ix.tup (s1 _ _ hq) (v:=.ref ll) rfl ?_)
   obtain⟨Pv,hPv⟩:∃Pv:Nat->St->Hp->Prop,∀i σ H',Pv i σ H'↔(∃o3 o4 o5:Option V,σ=[some v,some (.ref ca),some (.ref q),o3,o4,o5,none]/\aG H H'/\abk x c (aO x c st n) i 0):=⟨_,fun _ _ _=>Iff.rfl⟩
   refine ZKL.of (s1 _ _ hl) (s1 _ _ hll) (by omega) Pv ((hPv _ _ _).mpr ⟨_,_,_,rfl,s1,fun p' c' h=>by omega⟩) (fun i σ H' _ hh=>?_) ?_ ?_
   ·obtain⟨_,_,_,_,s',_⟩:=(hPv _ _ _).mp hh
    exact⟨s' _ _ hl,s' _ _ hll⟩
   ·intro i y z σ H2 pp hy hz hh fp
    obtain⟨o3,o4,o5,rfl,s2,hna⟩:=(hPv _ _ _).mp hh
    have hi:i<n:=by rw[<- hyl]; exact(fj.mp hy).1
    obtain⟨y',y1,y2⟩:=jy hA (p:=i) (by rw[hlen]; exact hi)
    rw[hy] at y1
    cases y1
    obtain⟨la,L,rfl,q1,q2,q3,q4,q5,q6⟩:=hL.2 i z hz
    have s3:=aM fp (HO.tup [y,V.ref la])
    refine⟨pp,_,rfl,cB.of aC,rfl,?_⟩
    generalize upd H2 pp (HO.tup [y,V.ref la])=H3 at s3 ⊢
    have jA:=s2.trans s3
    walk_at "rd"
    rw[vM]
    walk_at "rd"
    obtain⟨pe2,w1,w2,w3,w4,rfl,h1,h2,h3,h4⟩:=iG y2
    have hin:i<(aO x c st n).length:=by rw[hlen]; exact hi
    have hE:=mJ hx.is hv hs.is n _ (j8 hin).1
    have hcm:=Vi hE hW
    have hWe:=(Y4 (cv:=c) (b:=max (max st.w x.m) 0) hx hs (by omega) (by omega) (by omega) n _ (j8 hin).1).1
    refine Vg hv hE (fun R hR=>by walk_at "rd"; exact Ix.tup (jA _ _ h1) (v:=.ref w2) rfl hR) (jA _ _ h3) (jA _ _ hc) (hcA.mono jA) fun acc b r H4 s4 hl4 aaZ=>⟨acc,b,r,rfl,hl4,?_⟩
    have Dd:=jA.trans s4
    refine FK.of aaZ (by omega) (fun j σ H'=>∃o5:Option V,σ=[some v,some (.ref ca),some (.ref q),some (.ref pe2),some (.ref la),o5,none]/\aG H H'/\abk x c (aO x c st n) i j) ⟨_,rfl,Dd,hna⟩ ?_ ?_
    ·rintro j σ H5 hj ⟨o5,rfl,s5,hnj⟩
     walk_at "rd"
     rw[Int.zero_add]
     refine Ix.tup (s5 _ _ h1) (v:=w1) rfl ⟨v,w1,x,(eO (aO x c st n) i).st,j,rfl,a1.mono s5,h2.mono s5,hx,hWe,fun p6 u6 H6 s6 b6 e6=>Ix.tup e6 (v:=.int ((j:Int)-b_ x (eO (aO x c st n) i).st j)) rfl ⟨_,_,rfl,rfl,?_⟩⟩
     have SQ:=s5.trans s6
     by_cases c1:0<(j:Int)-b_ x (eO (aO x c st n) i).st j
     ·rw[aP (h_ c1)]
      refine⟨(by decide),fun p7 H7 f7 s7 e7=>Dg.of ((SQ.trans s7) _ _ q1) e7 (Um (by rw[bM]; show _+1<=1000; omega)) fun p8 H8 f8 s8 e8=>⟨(by decide),fun p9 H9 f9 s9 e9=>?_⟩⟩
      obtain⟨g1,g2⟩:=J2 hlen hi
      have Bk:lY x c st (some (mW (aO x c st n))) lim i j:=⟨g1,by rw[<- g2]; exact hj,Bg hlen hnj,by rw[<- g2,Vq hlen hi hj]; exact h_ c1,.inr (by
       have k1:=JL g1 (show j<=_ by rw[<- g2]; omega)
       have k2:=jP hlen (i+1)
       have k3:=D.hl
       omega)⟩
      refine qA _ _ H9 (.lbB n i j D Bk) (SQ.trans (s7.trans (s8.trans s9))) (At.tup e9 (ak.cons At.non (ak.cons ?_ ak.nil)))
      rw[Vp hlen Bk]
      have e10:=s9 _ _ e8
      rw[q6,hlen] at e10
      refine At.lst e10 ?_
      rw[iu]
      exact ak.append (bw _) (ak.cons (At.int _) ak.nil)
     ·rw[bB (by simpa using c1)]
      refine⟨_,rfl,SQ,fun p' c' h1 h2 h3=>?_⟩
      by_cases z:p'=i/\c'=j
      ·obtain⟨rfl,rfl⟩:=z
       exact c1
      ·exact hnj p' c' (by omega) h2 h3
    ·rintro σ H5 ⟨o5,rfl,s5,hnj⟩
     refine(hPv _ _ _).mpr ⟨_,_,_,rfl,s5,fun p' c' t1 t2 t3=>?_⟩
     by_cases z:p'=i
     ·exact hnj p' c' (.inr ⟨z,z▸t3⟩) t2 t3
     ·exact hnj p' c' (.inl (by omega)) t2 t3
   ·intro σ H2 hh
    obtain⟨o3,o4,o5,rfl,s2,hna⟩:=(hPv _ _ _).mp hh
    rw[hyl] at hna
    have hne:aO x c st n≠[]:=fun z=>by have:=vp (x:=x) (cv:=c) (st:=st) n; rw[z] at this; simp at this
    try dsimp only
    walk_at "rd"
    show ir _ _ _ _ _ _
    refine Ef (es:=(dN (aO x c st n)).map PyData.int) (fun R hR=>by walk_at "rd"; exact Ix.tup (s2 _ _ hq) (v:=.ref l) rfl hR) (s2 _ _ hl) (by rw[bM,dN,bM,hlen,hyl]) (jt (bu (by rw[bM,dN,bM,hlen]; omega))) (cX.mpr fun d hd=>by obtain⟨i,_,rfl⟩:=iK.mp hd; rfl) (fun i y e H3 hi he s3 R hR=>?_) fun acc ws H3 s3 f3 e3 A3=>?_
    ·have hil:i<(aO x c st n).length:=by rw[hlen,<- hyl]; exact(fj.mp hi).1
     obtain⟨y',y1,y2⟩:=jy hA hil
     rw[hi] at y1
     cases y1
     obtain⟨ea,v1,p2,v3,v4,rfl,g1,g2,_,_⟩:=iG y2
     obtain⟨sa,sb,sc,rfl,k1,_⟩:=fC g2
     walk_at "rd"
     refine Ix.tup ((s2.trans s3) _ _ g1) (v:=.ref sa) rfl (Ix.tup ((s2.trans s3) _ _ k1) (v:=.int (eO (aO x c st n) i).st.w) rfl (hR _ _ (aG.refl _) ?_))
     have:e=.int (eO (aO x c st n) i).st.w:=by
      rw[fQ,dN,fQ,fD hil] at he
      cases he
      unfold eO
      rw[gC,fD hil]
      rfl
     rw[this]
     exact At.int _
    cases cu A3
    obtain⟨b,r,h1,h2⟩:∃b r,dN (aO x c st n)=b::r/\fO b r=mW (aO x c st n):=by
     unfold mW
     cases e:dN (aO x c st n) with
     | nil=>exact absurd (Mt.mp e) hne
     | cons b r=>exact⟨b,r,rfl,rfl⟩
    have e3':=e3
    rw[h1] at e3'
    obtain⟨j,hj⟩:=yg (Ug hne).1
    have VG:=s2.trans s3
    have hjn:j<n:=by
     have:=(fj.mp hj.1).1
     rw[dN,bM,hlen] at this
     exact this
    obtain⟨z,hz⟩:∃z,zs[j]?=some z:=⟨_,fD (by omega)⟩
    obtain⟨la,L,rfl,q1,q2,q3,q4,q5,q6⟩:=hL.2 j z hz
    refine⟨acc,b,r,rfl,e3',?_⟩
    rw[h2]
    refine Ix.tup (VG _ _ hq) (v:=.ref ll) rfl ⟨.inl ⟨rfl,_,dh.of e3⟩,acc,b,r,rfl,e3',?_⟩
    rw[h2]
    refine⟨acc,_,_,j,rfl,e3,rfl,by rw[dN,bM,hlen]; omega,hj,Ix.lst (VG _ _ hll) (v:=.ref la) (bz hz) ⟨(by decide),fun p5 H5 f5 s5 e5=>?_⟩⟩
    have D2:fJ x c st (some (mW (aO x c st n))) lim n:=⟨hlen,Bg hlen hna,D.hl⟩
    refine qA _ _ H5 (.lbD n j D D2 hj) (VG.trans s5) (At.tup e5 (ak.cons (At.int _) (ak.cons ?_ ak.nil)))
    rw[<- q6]
    exact At.lst ((VG.trans s5) _ _ q1) (bw _)
  ·walk_at "rd"
   obtain⟨D1,D2,D3⟩:=SD.data _ _ (show SD 8 (.tuple [.str "all",BK (aO x c st n),Hx (aO x c st n)]) from SD.tup (by show 3<=1000; decide) fun e he=>by
    rcases bU.mp he with rfl | he
    ·exact SD.str (by decide +kernel)
    ·rcases bU.mp he with rfl | he
     ·exact SD.ents (n:=1) hv (by rw[hlen]; omega) (mJ hx.is hv hs.is n)
     ·rcases bU.mp he with rfl | he
      ·exact Xl (tX n) (by rw[hlen]; omega)
      ·cases he)
   refine⟨_,.str "many",dat,At.str _,D1,rfl,D2,by decide +kernel,by omega,?_⟩
   rw[show PyData.eqv (.tuple [.str "all",BK (aO x c st n),Hx (aO x c st n)]) (.str "many")=false from rfl,bB (by decide)]
   exact hN _ (aG.refl _)
noncomputable def Lr (K:PySem.W.Frag):Sp:=fun vs H Q _=>∃(p:Addr) (ns:List Int),vs=[.ref p]/\VH K H p (ns.map V.int)/\ns.length<=63/\∀H',Q (.bl true) H'
theorem SM:bf ["_law_script","_law_cells","_law_k","_law_tape_here","_law_post","_law_stand","_law_curve_here","_law_limit","_law_bound","_law_due"] ["_law_script"] (aK wA):=(by walk_at "c")
theorem aau (F:jr K "law" "law" wA f fd) (B:Bi mg) (bC:Ct P w K mg base k "_law_draw" ["_law_tape_here","_law_many"] pZ) (KZ:Ct P w K mg base k "_law_folded" ["_law_script","_law_many"] (Ss K)) (Vn:Ct P w K mg base k "_law_tape" ["_law_script","_law_k"] (R9 K)) (yI:Ct P w K mg base k "_law_small_post" ["_law_tape_here"] Li) (uV:Ct P w K mg base k "_law_small_stand" ["_law_tape_here","_law_post"] F_) (Q4:Ct P w K mg base k "_law_curve" ["_law_tape_here"] Ly) (BR:Ct P w K mg base k "_law_asked" ["_law_post","_law_stand","_law_curve_here","_law_bound","_law_limit"] Sv) (yJ:Ct P w K mg base k "_law_search" ["_law_post","_law_stand","_law_curve_here","_law_bound","_law_limit"] Ga) (Q3:Ct P w K mg base k "_law_least" ["_law_post","_law_curve_here","_law_found"] YB) (rY:Ct P w K mg base k "_law_same" ["_law_found","_law_due"] (Pa 7)):bZ P w K mg base jj (k+1) f fd ["_law_script"] (Lr K):=by
 refine F.ok SM (by rintro vs H Q E ⟨p,ns,rfl,_⟩; rfl) (fun cdv A outer s H vs Q E hr h=>?_)
 obtain⟨p,ns,rfl,hS,hl,q⟩:=h
 have ND:=SM.nd
 refine⟨_,(aq (aZ (i:=1) ND rfl (by walk_at "o") (pf KZ hr (aa (pv 0) (aa ao aj)))) (aq (gb PassesOwn.never rfl (d_ (by rfl) B.range (aa (pb (fY (K:=K) rfl) B.len mY (aa (pv 1) aj)) aj)) (aF (i:=2) ND rfl (by walk_at "o")) (aq (aZ (i:=3) ND rfl (by walk_at "o") (pf Vn hr (aa (pv 1) (aa (pv 2) aj)))) (aq (aZ (i:=4) ND rfl (by walk_at "o") (pf yI hr (aa (pv 3) aj))) (aq (mD (i:=5) (j:=6) rfl ND rfl rfl (by decide) rfl rfl (aa (pf uV hr (aa (pv 3) (aa (pv 4) aj))) (aa (pf Q4 hr (aa (pv 3) aj)) aj)) (by rfl)) (aq (aZ (i:=7) ND rfl (by walk_at "o") (aV bD ao (pf bC hr (aa (pv 3) (aa ao aj))))) (aq (aZ (i:=8) ND rfl (by walk_at "o") (aX aQ (bL (aa (aX aQ (pv 5) ao (fun _ _=>rfl)) (aa ao (aa (pf bC hr (aa (pv 3) (aa (aV bD (aX aQ (pv 4) ao (fun _ _=>rfl)) ao) aj))) (aa (aV JM ao ao) aj))))) (pf bC hr (aa (pv 3) (aa ao aj))) (fun _ _=>rfl))) (aq (dC (JC (mC (pf rY hr (aa (pf BR hr (aa (pv 4) (aa (pv 5) (aa (pv 6) (aa (pv 8) (aa (pv 7) aj)))))) (aa (pf yJ hr (aa (pv 4) (aa (pv 5) (aa (pv 6) (aa (pv 8) (aa (pv 7) aj)))))) aj))))) (aH (a_ rD)) bR) (aq (aZ (i:=9) ND rfl (by walk_at "o") (pf Q3 hr (aa (pv 4) (aa (pv 6) (aa (pf yJ hr (aa (pv 4) (aa (pv 5) (aa (pv 6) (aa cW (aa (pv 7) aj)))))) aj))))) (aH (dC (JC (mC (pf rY hr (aa (pf BR hr (aa (pv 4) (aa (pv 5) (aa (pv 6) (aa cW (aa (pv 7) aj)))))) (aa (pv 9) aj))))) (aH (a_ rD)) bR)))))))))) (aH (a_ rD)))),?_⟩
 simp only[Gg,Gh 9]
 walk_at "rd"
 refine⟨p,ns,rfl,hS,hl,fun pc cs H1 s1 e1 l1 l2=>?_⟩
 refine Y9 (n:=cs.length) (fun R hR=>?_) (by omega) (fun i σ H'=>∃o2 o3 o4 o5 o6 o7 o8 o9:Option V,σ=[some (.ref p),some (.ref pc),o2,o3,o4,o5,o6,o7,o8,o9]/\H' pc=some (.lst (cs.map V.int))) ⟨_,_,_,_,_,_,_,_,rfl,e1⟩ ?_ ?_
 ·walk_at "rd"
  refine⟨pc,_,rfl,.inl (dh.of e1),?_⟩
  rw[bM]
  exact hR
 ·rintro i σ H2 hi ⟨o2,o3,o4,o5,o6,o7,o8,o9,rfl,e2⟩
  walk_at "rd"
  refine⟨pc,cs,_,rfl,dh.of e2,by omega,by omega,fun a H3 f3 s3 t3=>?_⟩
  have npc:pc≠a:=bQ e2 f3
  refine⟨a,_,rfl,t3,by omega,fun p4 x H4 hx b1 t4 s4=>⟨a,_,.ref p4,x,rfl,b1.mono fW,hx.l,t4,by omega,fun p5 st H5 hs b2 t5 s5=>⟨a,_,rfl,t5,by omega,fun p6 c H6 hc hcb b3 t6 s6=>⟨_,_,rfl,?_⟩⟩⟩⟩
  refine gQ.of t6 (by omega) (by decide) (by decide) fun y7 H7 l7 u7 t7 s7=>?_
  have hW:cF c (c.map (·.1))<=23:=by
   have:=Uc (m:=7) hc fun q hq=>by have:=hcb q hq; omega
   omega
  have g1:At (hid a H7) (jn x) (.ref p4):=b1.mono (s5.trans (s6.trans s7))
  have g2:At (hid a H7) (jk st) (.ref p5):=b2.mono (s6.trans s7)
  have g3:At (hid a H7) (Fo c) (.ref p6):=b3.mono s7
  have p7:H7 pc=some (.lst (cs.map V.int)):=s7.get npc (s6.get npc (s5.get npc (s4.get npc (s3 _ _ e2))))
  obtain⟨sa,sb,sc,es5,k1,_⟩:=fC (g2.mono fW)
  cases es5
  obtain⟨pa,pb,pcc,pd,ep4,m1,_⟩:=jJ (g1.mono fW)
  cases ep4
  have hm:=hx.l.m
  refine⟨_,_,rfl,rfl,Ix.tup k1 (v:=.int st.w) rfl (Ix.tup m1 (v:=.int x.m) rfl ⟨_,_,rfl,rfl,?_⟩)⟩
  refine gQ.of t7 (by omega) (by have:=hm.1; omega) (by have:=hm.2; omega) fun y8 H8 l8 u8 t8 s8=>⟨⟨by decide,by decide,by decide⟩,(by decide),fun pl H9 f9 s9 e9=>?_⟩
  refine gQ.of (t8.same s9) (by omega) (by decide) (by decide) fun y10 uL l10 u10 ZK nq=>?_
  obtain⟨bd,hbd⟩:∃bd:Int,Il [V.int st.w,.int 0,.int y8,.int (10 ^ Int.toNat 12)] y10=some (.int bd):=by
   obtain⟨j,rfl⟩:=Int.eq_ofNat_of_zero_le l10
   rcases j with _ | _ | _ | _ | n
   ·exact⟨_,rfl⟩
   ·exact⟨_,rfl⟩
   ·exact⟨_,rfl⟩
   ·exact⟨_,rfl⟩
   ·omega
  refine Ix.lst (nq.get (t8.ne f9) e9) hbd ?_
  have x710:SX a H7 uL:=s8.trans ((SX.of s9).trans nq)
  have g1:=(g1.mono x710).mono fW
  have g2:=(g2.mono x710).mono fW
  have g3:=(g3.mono x710).mono fW
  have p10:=x710.get npc p7
  generalize hlim:40+y7=lim
  have m1:1<=lim:=by omega
  have m2:lim<=900:=by omega
  have hxi:=hx.l.is
  have hxn:=aaf hx.l
  have hw:=hs.toW
  clear k1 b1 b2 b3 t3 t4 t5 t6 t7 t8 ZK s3 s4 s5 s6 s7 s8 s9 nq e9 e2 p7 hbd x710
  refine eQ.on (fun sG pR=>?_) fun N hN=>?_
  ·refine eQ.of (fun σ' H'=>∃(d:PyData) (v':V),Ft x c st 0 lim 2 d/\At H' d v'/\aG sG H'/\σ'=[some (.ref p),some (.ref pc),some (.int (0+(i:Nat))),some (.ref a),some (.ref p4),some (.ref p5),some (.ref p6),some (.int lim),some (.int bd),some v']) ?_ ?_
   ·rintro _ vG ⟨d,v',A1,a12,s12,rfl⟩
    have Jr:=pR.trans s12
    walk_at "rd"
    refine⟨_,_,_,x,st,c,none,lim,rfl,g1.mono Jr,g2.mono Jr,g3.mono Jr,hxi,hxn,hs.is,hc,hW,m1,m2,fun d2 v2 Iz A2 jA a13=>?_⟩
    rw[A1.one A2] at a12
    refine Sm.of a13 (a12.mono jA) (A2.sd hxi hc hs.is m2) (by decide) fun Ye Dd=>⟨_,rfl,?_⟩
    rw[bB (by decide)]
    exact⟨_,_,_,_,_,_,_,_,rfl,(Jr.trans (jA.trans Dd)) _ _ p10⟩
   ·intro N hN
    walk_at "rd"
    refine⟨_,_,_,x,st,c,none,lim,rfl,g1.mono pR,g2.mono pR,g3.mono pR,hx.l,hw,hc,hW,m1,m2,fun n D q' l ll ys zs vG s12 vA A12 g12 L12 t12=>?_,fun pp cc Bk=>absurd Bk.hk (by show ¬false=true; decide),fun pp cc M vG s12=>?_⟩
    ·have Jr:=pR.trans s12
     exact⟨_,_,_,x,c,st,lim,rfl,.inr ⟨q',l,ll,ys,zs,n,rfl,t12,vA,A12,g12,L12,D,m2,m1,g1.mono Jr,g3.mono Jr,hx.l,hw,hc,hW,fun d v' Iz A1 jA a13=>hN _ _ ⟨d,v',A1,a13,s12.trans jA,rfl⟩⟩⟩
    ·exact⟨_,_,_,x,c,st,lim,rfl,.inl ⟨rfl,hN _ _ ⟨_,_,.lbM pp cc M,At.str _,s12,rfl⟩⟩⟩
  ·walk_at "rd"
   refine⟨_,_,_,x,st,c,some bd,lim,rfl,g1,g2,g3,hxi,hxn,hs.is,hc,hW,m1,m2,fun d v1 sG A1 pR a11=>?_⟩
   have A1:Ft x c st bd lim 1 d:=A1
   have S7:=A1.sd hxi hc hs.is m2
   have fin:∀(d2:PyData) (v2:V) (vG:Hp),Ft x c st bd lim 1 d2->aG sG vG->At vG d2 v2->Pa 7 [v1,v2] vG (fun x H1=>∃c,x=V.bl c/\if(!c)=true then Q (V.bl false) H1 else N [some (.ref p),some (.ref pc),some (.int (0+(i:Nat))),some (.ref a),some (.ref p4),some (.ref p5),some (.ref p6),some (.int lim),some (.int bd),o9] H1) E0:=fun d2 v2 vG A2 s12 a12=>by
    rw[<- A1.one A2] at a12
    refine Sm.of (a11.mono s12) a12 S7 (by decide) fun Iz jA=>⟨_,rfl,?_⟩
    rw[bB (by decide)]
    exact hN _ (pR.trans (s12.trans jA))
   refine⟨_,_,_,x,st,c,some bd,lim,rfl,g1.mono pR,g2.mono pR,g3.mono pR,hx.l,hw,hc,hW,m1,m2,fun n D q' l ll ys zs vG s12 vA A12 g12 L12 t12=>?_,fun pp cc Bk q' r vG s12 vA r12=>?_,fun pp cc M vG s12=>?_⟩
   ·exact fin _ _ vG (.opD n D) s12 (At.tup t12 (ak.cons (At.str _) (ak.cons (At.lst vA A12) ak.nil)))
   ·exact fin _ _ vG (.opB pp cc Bk) s12 (At.tup vA (ak.cons (At.str _) (ak.cons (At.lst r12 (bw _)) ak.nil)))
   ·exact fin _ _ vG (.opM pp cc M) s12 (At.str _)
 ·rintro σ H2 ⟨o2,o3,o4,o5,o6,o7,o8,o9,rfl,e2⟩
  exact q H2
end
theorem un0 {us:List Value} {n:Nat} (h:us.length=n+1):∃a r,us=a::r/\r.length=n:=by
 cases us with
 | nil=>cases h
 | cons a r=>exact⟨a,r,rfl,Nat.succ.inj h⟩
theorem V_ {us:List Value} (h:us.length=1):∃a,us=[a]:=by
 obtain⟨a,r,rfl,g⟩:=un0 h
 cases Td.mp g
 exact⟨a,rfl⟩
theorem Ld {us:List Value} (h:us.length=2):∃a a0,us=[a,a0]:=by
 obtain⟨a,r,rfl,g⟩:=un0 h
 obtain⟨a0,rfl⟩:=V_ g
 exact⟨a,a0,rfl⟩
theorem Fi {us:List Value} (h:us.length=3):∃a a0 a1,us=[a,a0,a1]:=by
 obtain⟨a,r,rfl,g⟩:=un0 h
 obtain⟨a0,a1,rfl⟩:=Ld g
 exact⟨a,a0,a1,rfl⟩
theorem Zz {us:List Value} (h:us.length=4):∃a a0 a1 a2,us=[a,a0,a1,a2]:=by
 obtain⟨a,r,rfl,g⟩:=un0 h
 obtain⟨a0,a1,a2,rfl⟩:=Fi g
 exact⟨a,a0,a1,a2,rfl⟩
theorem un5 {us:List Value} (h:us.length=5):∃a a0 a1 a2 a3,us=[a,a0,a1,a2,a3]:=by
 obtain⟨a,r,rfl,g⟩:=un0 h
 obtain⟨a0,a1,a2,a3,rfl⟩:=Zz g
 exact⟨a,a0,a1,a2,a3,rfl⟩
theorem all_mk {l:PySem.W.OpenLaw} {w:World} {K:PySem.W.Frag} {h:Heap} {mg:Str->Option Value} {fa:Addr} (X:K.In h) (G:h.Ns mainGlobals mg) (hfa:mg "law" = some (.ref fa))
  {f0:Addr} (e0:jR K "needed" wy f0)
  {f1:Addr} (e1:jR K "most_ahead" l_ f1)
  {f2:Addr} (e2:jR K "lean" Jp f2)
  {f3:Addr} (e3:jR K "lean_triple" km f3)
  {f4:Addr} (e4:jR K "wish" Jo f4)
  {f5:Addr} (e5:jR K "rule_wish" nR f5)
  {f6:Addr} (e6:jR K "row_says" p_ f6)
  {f7:Addr} (e7:jR K "hands_of" qg f7)
  {f8 T8:Addr} (e8:Yg K "beat" Jq f8 T8 12)
  {f9:Addr} (e9:jR K "since_and_look" iQ f9)
  {f10:Addr} (e10:jR K "change_of" nW f10)
  {f11:Addr} (Iw:jR K "with_change" j_ f11)
  {Rm:Addr} (vA:jR K "sent_home" nQ Rm)
  {Za:Addr} (N7:jR K "bursts_of" nY Za)
  {f14:Addr} (Ku:jR K "most_next" nU f14)
  {f15:Addr} (Ks:jR K "spares_left" kh f15)
  {f16 T16:Addr} (QL:Yg K "led" SN f16 T16 300)
  {f17 T17:Addr} (e17:Yg K "opened" wu f17 T17 300)
  {f18 T18:Addr} (e18:Yg K "least_bound" kj f18 T18 300)
  {f19:Addr} (e19:jR K "walked" wg f19)
  {f20:Addr} (e20:jR K "is_too_wide" kE f20)
  {f21:Addr} (e21:jR K "first_entry" kI f21)
  {f22:Addr} (e22:jR K "comes_next" my f22)
  {f23:Addr} (Zb:jR K "led_to" wz f23)
  {f24:Addr} (e24:jR K "breaks" wH f24)
  {f25:Addr} (e25:jR K "check_room" mz f25)
  {f26:Addr} (e26:jR K "load_to" sZ f26)
  {f27:Addr} (e27:jR K "_law_tape" wC f27)
  {f28:Addr} (e28:jR K "_law_draw" wF f28)
  {f29:Addr} (e29:jR K "_law_folded" qe f29)
  {f30:Addr} (e30:jR K "_law_row" C_ f30)
  {f31:Addr} (e31:jR K "_law_small_post" jD f31)
  {f32:Addr} (e32:jR K "_law_small_stand" jl f32)
  {f33:Addr} (e33:jR K "_law_curve" tE f33)
  {f34:Addr} (e34:jR K "_law_row_wish" mj f34)
  {f35:Addr} (e35:jR K "_law_wish" wB f35)
  {f36:Addr} (e36:jR K "_law_beat" wG f36)
  {f37:Addr} (e37:jR K "_law_lean" wD f37)
  {f38:Addr} (e38:jR K "_law_spares" qb f38)
  {f39:Addr} (e39:jR K "_law_same" qU f39)
  {f40:Addr} (e40:jR K "_law_class" tG f40)
  {f41:Addr} (e41:jR K "_law_search" qd f41)
  {f42:Addr} (e42:jR K "_law_least" tu f42)
  {f43:Addr} (e43:jR K "_law_asked" tH f43)
  {f44:Addr} (e44:jR K "law" wA f44)
  {aJ:Addr} (zZ:PySem.W.nsIn K mainGlobals "TooMany" = some (some (.ref aJ)))
  {aL:Addr} (zY:PySem.W.nsIn K mainGlobals "TooWide" = some (some (.ref aL)))
  {cH:Addr} (Fw:PySem.W.nsIn K mainGlobals "HandError" = some (some (.ref cH)))
  {dG:Addr} (Rz:PySem.W.nsIn K mainGlobals "Beyond" = some (some (.ref dG)))
  {dH:Addr} (RB:PySem.W.nsIn K mainGlobals "BadAsk" = some (some (.ref dH)))
  {cP:Addr} (O2:PySem.W.nsIn K mainGlobals "BadLoad" = some (some (.ref cP)))
  {cO:Addr} (O1:PySem.W.nsIn K mainGlobals "BadText" = some (some (.ref cO)))
  {cN:Addr} (OJ:PySem.W.nsIn K mainGlobals "BadYard" = some (some (.ref cN)))
  {dF:Addr} (Ry:PySem.W.nsIn K mainGlobals "NoName" = some (some (.ref dF)))
  {cM:Addr} (OD:PySem.W.nsIn K mainGlobals "TooLong" = some (some (.ref cM)))
  (Cp:PySem.W.excIn K aJ Zy "ValueError.__new__" = true)
  (Cm:PySem.W.excIn K aL Zy "ValueError.__new__" = true)
  (Cr:PySem.W.exmOne K (.ref aJ) (.ref aJ)=some true)
  (Cq:PySem.W.exmOne K (.ref aL) (.ref aL)=some true)
  (Cw:PySem.W.exmOne K (.ref aJ) (.ref cH)=some true)
  (Cu:PySem.W.exmOne K (.ref aL) (.ref cH)=some true)
  (Kq:PySem.W.findIn K (.ref aJ) "__getattribute__" = some (some (.builtin "BaseException.__getattribute__")))
  (Ko:PySem.W.findIn K (.ref aJ) "__getattr__" = some none)
  (Kl:PySem.W.findIn K (.ref aJ) "__class__" = some (some (.builtin "object.__class__")))
  (Kc:PySem.W.hasDictIn K aJ=true)
  (Kg:PySem.W.subIn K (.ref aJ) (.type "BaseException")=some true)
  (Ke:PySem.W.mroIn K aJ (.type "object")=some true)
  (Kp:PySem.W.findIn K (.ref aL) "__getattribute__" = some (some (.builtin "BaseException.__getattribute__")))
  (Km:PySem.W.findIn K (.ref aL) "__getattr__" = some none)
  (Kh:PySem.W.findIn K (.ref aL) "__class__" = some (some (.builtin "object.__class__")))
  (Ka:PySem.W.hasDictIn K aL=true)
  (Kf:PySem.W.subIn K (.ref aL) (.type "BaseException")=some true)
  (Kd:PySem.W.mroIn K aL (.type "object")=some true)
  (Zw:PySem.W.kitOne K (.ref aJ) (.ref aJ)=some true)
  (Zv:PySem.W.kitOne K (.ref aJ) (.ref aL)=some false)
  (Zu:PySem.W.kitOne K (.ref aL) (.ref aJ)=some false)
  (Zt:PySem.W.kitOne K (.ref aL) (.ref aL)=some true)
  (ab5:PySem.W.kitOne K (.ref aJ) (.type "ValueError")=some true)
  (ab4:PySem.W.kitOne K (.ref aL) (.type "ValueError")=some true)
  (ab7:PySem.W.kitAny K (.ref aJ) ([dH,cP,cO,cN,dG,dF,cM].map Value.ref)=some false)
  (ab6:PySem.W.kitAny K (.ref aL) ([dH,cP,cO,cN,dG,dF,cM].map Value.ref)=some false)
  (zg5:PySem.W.specialIn K (.builtin "object.__class__") "__get__" = some (some (.builtin "getset_descriptor.__get__")))
  (zh5:PySem.W.takesIn K (.builtin "object.__class__")=some true)
  (VR:Nb K "tuple")
  (abX:Nb K "max")
  (abW:Nb K "min")
  (Fv:Nb K "enumerate")
  (abS:Nb K "zip")
  (abT:Nb K "sum")
  (Zn:Nb K "list")
  (IV:Nb K "reversed")
  (V0:Nb K "range")
  (abY:Nb K "len")
  (abV:Nb K "set")
  (ab1:Nb K "abs")
  (abZ:Nb K "int")
  (Cj:Nb K "isinstance")
  (abU:Nb K "str")
  (ab0:Nb K "all")
  (Zo:Nb K "bool")
  (Ck:Nb K "ValueError")
  {RK RJ RG:Tok} (Xb:NT K "WHATS" [.str "come" RK,.str "done" RJ,.str "wait" RG])
  (aaD:zW K "OVER" "over")
  (Xc:zW K "UNDER" "under")
  (aaF:zW K "EACH" "each")
  (Dz:Ni K "MOST_HANDS" 12)
  (xK:Ni K "TRIPLES_SEEN" 3)
  (Xd:Ni K "LIMIT" 300)
  (Hu:Ni K "MOST_COME" 23)
  (aaE:zW K "KEPT" "kept")
  (Ua:zW K "BROKEN" "broken") :
  ∃fd:FuncData,(∀(s:Shared) (v:Value),BindsTo s fd ⟨[v],[]⟩ [("_law_script",v)])/\∀base:Heap,K.In base->base.Ns mainGlobals mg->bZ l.prog w K mg base jj 11 fa fd ["_law_script"] (Lr K):=by
 obtain⟨h0⟩:=e0.has X G (ps:=["post"]) fun _ _ _ _ _ _ us hl=>by obtain⟨_,rfl⟩:=V_ hl; rfl
 obtain⟨h1⟩:=e1.has X G (ps:=["rows","what"]) fun _ _ _ _ _ _ us hl=>by obtain⟨_,_,rfl⟩:=Ld hl; rfl
 obtain⟨h2⟩:=e2.has X G (ps:=["post","stand"]) fun _ _ _ _ _ _ us hl=>by obtain⟨_,_,rfl⟩:=Ld hl; rfl
 obtain⟨h3⟩:=e3.has X G (ps:=["triple","place","wants"]) fun _ _ _ _ _ _ us hl=>by obtain⟨_,_,_,rfl⟩:=Fi hl; rfl
 obtain⟨h4⟩:=e4.has X G (ps:=["post","hands","newest"]) fun _ _ _ _ _ _ us hl=>by obtain⟨_,_,_,rfl⟩:=Fi hl; rfl
 obtain⟨h5⟩:=e5.has X G (ps:=["rule","hands","newest"]) fun _ _ _ _ _ _ us hl=>by obtain⟨_,_,_,rfl⟩:=Fi hl; rfl
 obtain⟨h6⟩:=e6.has X G (ps:=["row","hands","newest"]) fun _ _ _ _ _ _ us hl=>by obtain⟨_,_,_,rfl⟩:=Fi hl; rfl
 obtain⟨h7⟩:=e7.has X G (ps:=["stand"]) fun _ _ _ _ _ _ us hl=>by obtain⟨_,rfl⟩:=V_ hl; rfl
 obtain⟨h8⟩:=e8.has X G (ps:=["post","stand","come","free"]) (fun _ _ _ _ _ _ _ us hl=>by
  rw[lJ] at hl
  obtain⟨_,_,_,_,rfl⟩:=Zz hl
  exact⟨_,rfl,rfl⟩) fun _ _ _ _ _ _ _ us hl=>by
  obtain⟨_,_,_,rfl⟩:=Fi (Nat.succ.inj ((gH).symm.trans hl))
  exact⟨_,rfl,rfl⟩
 obtain⟨h9⟩:=e9.has X G (ps:=["post","since","rest"]) fun _ _ _ _ _ _ us hl=>by obtain⟨_,_,_,rfl⟩:=Fi hl; rfl
 obtain⟨h10⟩:=e10.has X G (ps:=["post","hands","newest","free"]) fun _ _ _ _ _ _ us hl=>by obtain⟨_,_,_,_,rfl⟩:=Zz hl; rfl
 obtain⟨h11⟩:=Iw.has X G (ps:=["post","stand","change"]) fun _ _ _ _ _ _ us hl=>by obtain⟨_,_,_,rfl⟩:=Fi hl; rfl
 obtain⟨h12⟩:=vA.has X G (ps:=["ready","called","many"]) fun _ _ _ _ _ _ us hl=>by obtain⟨_,_,_,rfl⟩:=Fi hl; rfl
 obtain⟨h13⟩:=N7.has X G (ps:=["curve"]) fun _ _ _ _ _ _ us hl=>by obtain⟨_,rfl⟩:=V_ hl; rfl
 obtain⟨h14⟩:=Ku.has X G (ps:=["curve","spare"]) fun _ _ _ _ _ _ us hl=>by obtain⟨_,_,rfl⟩:=Ld hl; rfl
 obtain⟨h15⟩:=Ks.has X G (ps:=["curve","spare","come"]) fun _ _ _ _ _ _ us hl=>by obtain⟨_,_,_,rfl⟩:=Fi hl; rfl
 obtain⟨h16⟩:=QL.has X G (ps:=["post","stand","curve","limit"]) (fun _ _ _ _ _ _ _ us hl=>by
  rw[lJ] at hl
  obtain⟨_,_,_,_,rfl⟩:=Zz hl
  exact⟨_,rfl,rfl⟩) fun _ _ _ _ _ _ _ us hl=>by
  obtain⟨_,_,_,rfl⟩:=Fi (Nat.succ.inj ((gH).symm.trans hl))
  exact⟨_,rfl,rfl⟩
 obtain⟨h17⟩:=e17.has X G (ps:=["post","stand","curve","bound","limit"]) (fun _ _ _ _ _ _ _ us hl=>by
  rw[lJ] at hl
  obtain⟨_,_,_,_,_,rfl⟩:=un5 hl
  exact⟨_,rfl,rfl⟩) fun _ _ _ _ _ _ _ us hl=>by
  obtain⟨_,_,_,_,rfl⟩:=Zz (Nat.succ.inj ((gH).symm.trans hl))
  exact⟨_,rfl,rfl⟩
 obtain⟨h18⟩:=e18.has X G (ps:=["post","stand","curve","limit"]) (fun _ _ _ _ _ _ _ us hl=>by
  rw[lJ] at hl
  obtain⟨_,_,_,_,rfl⟩:=Zz hl
  exact⟨_,rfl,rfl⟩) fun _ _ _ _ _ _ _ us hl=>by
  obtain⟨_,_,_,rfl⟩:=Fi (Nat.succ.inj ((gH).symm.trans hl))
  exact⟨_,rfl,rfl⟩
 obtain⟨h19⟩:=e19.has X G (ps:=["post","stand","curve","bound","limit"]) fun _ _ _ _ _ _ us hl=>by obtain⟨_,_,_,_,_,rfl⟩:=un5 hl; rfl
 obtain⟨h20⟩:=e20.has X G (ps:=["curve"]) fun _ _ _ _ _ _ us hl=>by obtain⟨_,rfl⟩:=V_ hl; rfl
 obtain⟨h21⟩:=e21.has X G (ps:=["post","stand","curve"]) fun _ _ _ _ _ _ us hl=>by obtain⟨_,_,_,rfl⟩:=Fi hl; rfl
 obtain⟨h22⟩:=e22.has X G (ps:=["curve","entry"]) fun _ _ _ _ _ _ us hl=>by obtain⟨_,_,rfl⟩:=Ld hl; rfl
 obtain⟨h23⟩:=Zb.has X G (ps:=["post","curve","entry","come"]) fun _ _ _ _ _ _ us hl=>by obtain⟨_,_,_,_,rfl⟩:=Zz hl; rfl
 obtain⟨h24⟩:=e24.has X G (ps:=["bound","behind","away"]) fun _ _ _ _ _ _ us hl=>by obtain⟨_,_,_,rfl⟩:=Fi hl; rfl
 obtain⟨h25⟩:=e25.has X G (ps:=["entries","limit"]) fun _ _ _ _ _ _ us hl=>by obtain⟨_,_,rfl⟩:=Ld hl; rfl
 obtain⟨h26⟩:=e26.has X G (ps:=["entries","place"]) fun _ _ _ _ _ _ us hl=>by obtain⟨_,_,rfl⟩:=Ld hl; rfl
 obtain⟨h27⟩:=e27.has X G (ps:=["_law_script","_law_k"]) fun _ _ _ _ _ _ us hl=>by obtain⟨_,_,rfl⟩:=Ld hl; rfl
 obtain⟨h28⟩:=e28.has X G (ps:=["_law_tape_here","_law_many"]) fun _ _ _ _ _ _ us hl=>by obtain⟨_,_,rfl⟩:=Ld hl; rfl
 obtain⟨h29⟩:=e29.has X G (ps:=["_law_script","_law_many"]) fun _ _ _ _ _ _ us hl=>by obtain⟨_,_,rfl⟩:=Ld hl; rfl
 obtain⟨h30⟩:=e30.has X G (ps:=["_law_tape_here"]) fun _ _ _ _ _ _ us hl=>by obtain⟨_,rfl⟩:=V_ hl; rfl
 obtain⟨h31⟩:=e31.has X G (ps:=["_law_tape_here"]) fun _ _ _ _ _ _ us hl=>by obtain⟨_,rfl⟩:=V_ hl; rfl
 obtain⟨h32⟩:=e32.has X G (ps:=["_law_tape_here","_law_post"]) fun _ _ _ _ _ _ us hl=>by obtain⟨_,_,rfl⟩:=Ld hl; rfl
 obtain⟨h33⟩:=e33.has X G (ps:=["_law_tape_here"]) fun _ _ _ _ _ _ us hl=>by obtain⟨_,rfl⟩:=V_ hl; rfl
 obtain⟨h34⟩:=e34.has X G (ps:=["_law_row_here","_law_hands","_law_newest"]) fun _ _ _ _ _ _ us hl=>by obtain⟨_,_,_,rfl⟩:=Fi hl; rfl
 obtain⟨h35⟩:=e35.has X G (ps:=["_law_post","_law_hands","_law_newest"]) fun _ _ _ _ _ _ us hl=>by obtain⟨_,_,_,rfl⟩:=Fi hl; rfl
 obtain⟨h36⟩:=e36.has X G (ps:=["_law_post","_law_stand","_law_come"]) fun _ _ _ _ _ _ us hl=>by obtain⟨_,_,_,rfl⟩:=Fi hl; rfl
 obtain⟨h37⟩:=e37.has X G (ps:=["_law_post","_law_stand"]) fun _ _ _ _ _ _ us hl=>by obtain⟨_,_,rfl⟩:=Ld hl; rfl
 obtain⟨h38⟩:=e38.has X G (ps:=["_law_curve_here","_law_load"]) fun _ _ _ _ _ _ us hl=>by obtain⟨_,_,rfl⟩:=Ld hl; rfl
 obtain⟨Iu⟩:=e39.has X G (ps:=["_law_found","_law_due"]) fun _ _ _ _ _ _ us hl=>by obtain⟨_,_,rfl⟩:=Ld hl; rfl
 obtain⟨h40⟩:=e40.has X G (ps:=["_law_caught"]) fun _ _ _ _ _ _ us hl=>by obtain⟨_,rfl⟩:=V_ hl; rfl
 obtain⟨h41⟩:=e41.has X G (ps:=["_law_post","_law_stand","_law_curve_here","_law_bound","_law_limit"]) fun _ _ _ _ _ _ us hl=>by obtain⟨_,_,_,_,_,rfl⟩:=un5 hl; rfl
 obtain⟨h42⟩:=e42.has X G (ps:=["_law_post","_law_curve_here","_law_found"]) fun _ _ _ _ _ _ us hl=>by obtain⟨_,_,_,rfl⟩:=Fi hl; rfl
 obtain⟨h43⟩:=e43.has X G (ps:=["_law_post","_law_stand","_law_curve_here","_law_bound","_law_limit"]) fun _ _ _ _ _ _ us hl=>by obtain⟨_,_,_,_,_,rfl⟩:=un5 hl; rfl
 have B:Bi mg:=⟨PySem.W.mg_none_of X G VR,PySem.W.mg_none_of X G abX,PySem.W.mg_none_of X G abW,PySem.W.mg_none_of X G Fv,PySem.W.mg_none_of X G abS,PySem.W.mg_none_of X G abT,PySem.W.mg_none_of X G Zn,PySem.W.mg_none_of X G IV,PySem.W.mg_none_of X G V0,PySem.W.mg_none_of X G abY,PySem.W.mg_none_of X G abV,PySem.W.mg_none_of X G ab1,PySem.W.mg_none_of X G abZ,PySem.W.mg_none_of X G Cj,PySem.W.mg_none_of X G abU,PySem.W.mg_none_of X G ab0,PySem.W.mg_none_of X G Zo,PySem.W.mg_none_of X G Ck⟩
 have O:Co K mg:=⟨(let ⟨a,n,_,z,m⟩:=Xb; ⟨a,PySem.W.mg_of X G z,⟨_,m,rfl,rfl⟩,fun H=>.inr ⟨_,_,n,m,rfl,rfl,(by show 3<=sizeLine; decide),(.cons ⟨_,rfl⟩ (.cons ⟨_,rfl⟩ (.cons ⟨_,rfl⟩ .nil)))⟩⟩),aaD.gs X G,Xc.gs X G,aaF.gs X G,Dz.gi X G,xK.gi X G,Xd.gi X G,Hu.gi X G,aaE.gs X G,Ua.gs X G⟩
 have gO:=VL.of Kq Ko Kl zg5 zh5 Kc Kg Ke
 have gM:=VL.of Kp Km Kh zg5 zh5 Ka Kf Kd
 have Z:ZL K mg aJ aL:=⟨PySem.W.mg_of X G zZ,PySem.W.mg_of X G zY,Cp,Cm,Cr,Cq⟩
 have Y:ZM K mg cH dG dH cP cO cN dF cM aJ aL:=⟨PySem.W.mg_of X G Fw,PySem.W.mg_of X G Rz,PySem.W.mg_of X G RB,PySem.W.mg_of X G O2,PySem.W.mg_of X G O1,PySem.W.mg_of X G OJ,PySem.W.mg_of X G Ry,PySem.W.mg_of X G OD,PySem.W.mg_of X G zZ,PySem.W.mg_of X G zY,Cw,Cu,gO.1,gM.1,gO.2,gM.2,Zw,Zv,Zu,Zt,ab5,ab4,ab7,ab6⟩
 obtain⟨oc,od,an,sl,kV,dc,pm,cd,ct,ea,el,ec,ek0⟩:=e44
 have e:=hfa.symm.trans (PySem.W.mg_of X G ea)
 cases e
 refine⟨PySem.W.fnOf "law" "law" (fM wA) (dI wA) (aK wA) .none kV dc pm an cd ct,fun s v=>.of_eq rfl,fun base _ _=>?_⟩
 have F:=U4 (st:=wA) el ec ek0
 have ji:=h28.ct l.prog w base (Qn (k:=0) h28.F B)
 have zR:=h29.ct l.prog w base (Ho (k:=0) h29.F B)
 have Ia:=h27.ct l.prog w base (Ql (k:=0) h27.F B)
 have K4:=h30.ct l.prog w base (T4 (k:=1) h30.F B (ji.mono (by decide)))
 have rZ:=h31.ct l.prog w base (uP (k:=2) h31.F B (ji.mono (by decide)) (K4.mono (by decide)))
 have qC:=h32.ct l.prog w base (tW (k:=1) h32.F B (ji.mono (by decide)))
 have Eo:=h33.ct l.prog w base (JS (k:=1) h33.F B (ji.mono (by decide)))
 have gY:=h14.ct l.prog w base (Ds (k:=0) h14.F B)
 have gZ:=h13.ct l.prog w base (Du (k:=0) h13.F B)
 have lA:=h20.ct l.prog w base (xF (k:=1) h20.F O (gY.mono (by decide)) (gZ.mono (by decide)))
 have mU:=h1.ct l.prog w base (zm (k:=0) h1.F B)
 have yG:=h0.ct l.prog w base (Qi (k:=1) h0.F B O (mU.mono (by decide)))
 have lq:=h3.ct l.prog w base (xu (k:=0) h3.F B)
 have ug:=h2.ct l.prog w base (W7 (k:=2) h2.F B (yG.mono (by decide)) (lq.mono (by decide)))
 have lB:=h21.ct l.prog w base (xG (k:=3) h21.F (ug.mono (by decide)) (gZ.mono (by decide)))
 have mV:=h22.ct l.prog w base (zq (k:=1) h22.F B (gY.mono (by decide)))
 have i_:=h9.ct l.prog w base (rF (k:=0) h9.F)
 have qy:=h6.ct l.prog w base (Hl (k:=0) h6.F B O)
 have oO:=h5.ct l.prog w base (Dr (k:=1) h5.F (qy.mono (by decide)))
 have KR:=h4.ct l.prog w base (W6 (k:=2) h4.F B (oO.mono (by decide)))
 have oU:=h10.ct l.prog w base (Dt (k:=3) h10.F B (KR.mono (by decide)))
 have qz:=h7.ct l.prog w base (Hq (k:=0) h7.F B)
 have oN:=h12.ct l.prog w base (Dq (k:=0) h12.F B)
 have kZ:=h11.ct l.prog w base (xn (k:=1) h11.F B (oN.mono (by decide)))
 have K3:=h8.ct l.prog w base (W8 (k:=4) h8.F B O (i_.mono (by decide)) (oU.mono (by decide)) (qz.mono (by decide)) (kZ.mono (by decide)))
 have k_:=h15.ct l.prog w base (xq (k:=0) h15.F B)
 have yH:=h23.ct l.prog w base (Qj (k:=5) h23.F (ug.mono (by decide)) (K3.mono (by decide)) (k_.mono (by decide)))
 have yL:=h24.ct l.prog w base (Qp (k:=0) h24.F)
 have mX:=h25.ctE l.prog w base (zr (k:=0) h25.F B Z)
 have jC:=h26.ct l.prog w base (JP (k:=0) h26.F)
 have lW:=h19.ctE l.prog w base (Qg (k:=6) h19.F B O Z (lA.mono (by decide)) (lB.mono (by decide)) (mV.mono (by decide)) (yH.mono (by decide)) (yL.mono (by decide)) (mX.mono (by decide)) (jC.mono (by decide)))
 have lX:=h17.ctF l.prog w base (Qh (k:=7) h17.F O (lW.mono (by decide)))
 have Vl:=h16.ctF l.prog w base (aat (k:=7) h16.F (lW.mono (by decide)))
 have lg:=h18.ctF l.prog w base (xr (k:=8) h18.F B O (Vl.mono (by decide)) (lX.mono (by decide)) (jC.mono (by decide)))
 have Ep:=h40.ct l.prog w base (JT (k:=0) h40.F B Y)
 have Er:=h43.ct l.prog w base (JV (k:=9) h43.F B Y (lX.mono (by decide)) (lg.mono (by decide)) (Ep.mono (by decide)))
 have uW:=h34.ct l.prog w base (zp (k:=0) h34.F B)
 have H_:=h35.ct l.prog w base (Qk (k:=1) h35.F B (uW.mono (by decide)))
 have uK:=h36.ct l.prog w base (Qo (k:=2) h36.F B (H_.mono (by decide)))
 have Ib:=h37.ct l.prog w base (Qm (k:=0) h37.F B)
 have zy:=h38.ct l.prog w base (Hm (k:=0) h38.F B)
 have zE:=h41.ct l.prog w base (Hn (k:=3) h41.F B (uK.mono (by decide)) (Ib.mono (by decide)) (zy.mono (by decide)))
 have Em:=h42.ct l.prog w base (JR (k:=3) h42.F B (uK.mono (by decide)))
 have zQ:=Iu.ct l.prog w base (JQ (k:=0) Iu.F)
 have zP:=Iu.ct l.prog w base (iT (k:=1) 0 Iu.F B (zQ.mono (by decide)))
 have zO:=Iu.ct l.prog w base (iT (k:=2) 1 Iu.F B (zP.mono (by decide)))
 have zN:=Iu.ct l.prog w base (iT (k:=3) 2 Iu.F B (zO.mono (by decide)))
 have zM:=Iu.ct l.prog w base (iT (k:=4) 3 Iu.F B (zN.mono (by decide)))
 have zL:=Iu.ct l.prog w base (iT (k:=5) 4 Iu.F B (zM.mono (by decide)))
 have zK:=Iu.ct l.prog w base (iT (k:=6) 5 Iu.F B (zL.mono (by decide)))
 have zH:=Iu.ct l.prog w base (iT (k:=7) 6 Iu.F B (zK.mono (by decide)))
 exact aau (k:=10) F B (ji.mono (by decide)) (zR.mono (by decide)) (Ia.mono (by decide)) (rZ.mono (by decide)) (qC.mono (by decide)) (Eo.mono (by decide)) (Er.mono (by decide)) (zE.mono (by decide)) (Em.mono (by decide)) (zH.mono (by decide))
theorem walk {l:PySem.W.OpenLaw} {q:Program} {loose:List Str} {XP:(Str->Option Value)->Heap->Prop} {YP:World->Heap->Prop} {d:DefRec} {K:Params->PySem.W.Frag} (hn:l.most=some 63) (hdf:d.params.defaults=[])
  (hY:∀(w:World) (h:Heap),YP w h->(K w.params).In h)
  (F:∀(w:World) (mg:Str->Option Value) (fa:Addr) (h:Heap),(K w.params).In h->h.Ns mainGlobals mg->mg d.name=some (.ref fa) ->
   ∃fd:FuncData,(∀(s:Shared) (u:Value),BindsTo s fd ⟨[u],[]⟩ [("_law_script",u)])/\∀base:Heap,(K w.params).In base->base.Ns mainGlobals mg->bZ l.prog w (K w.params) mg base jj 11 fa fd ["_law_script"] (Lr (K w.params))) :
  PySem.W.WalkO q loose XP YP l.row.toRowW d [] (fun f vs=>PySem.call f vs):=
 L2.V8 (n:=63) (k:=11) (x:="_law_script") (CX:=fun _=>jj) (sp:=fun w=>Lr (K w.params)) hn (by decide) hdf ⟨rfl,by decide,by decide,rfl⟩ hY F (fun _ _ a ns hl hO hS=>⟨a,ns,rfl,VH.of hS hO,hl,fun _=>rfl⟩) fun _ _ _ _ _ z=>z
end K85
structure PySem.W.Fast:Prop where(tw15937161747273605379 tw1459538975479265489 tw10304508643400841623 tw10817706546583690219 tw2727388701260714225 tw5048980982220382331 tw11451355472374894359 tw16566696683261354447 tw13517646682900281757 tw11052978342967406708 tw9498789697864057223 tw4176636340202150338 tw12963837727160163643 tw983177992014353610 tw777206581571366652 tw16060504184474327250 tw8547064845013604292 tw4416763848309875185 tw9679357263971876886 tw4824528999983945454 tw13509040687002698781 tw13225088310125319519 tw4447289717885519751 tw2561323856828231132 tw17164934500610033634 tw11546596891078077104 tw12795221985537021024 tw6194105293329996873 tw7329643054448949282 tw11778494770504534247 tw17370786293511738954 tw2777697583092643288 tw5970256877113815841 tw1072053942113477610 tw10176570202367642514 tw18339770506747546233 tw15166096044536414322 tw11705980874029831082 tw3370366286752331326 tw12911014357266445347 tw9683019816997090830 tw4443210096966638101 tw70113683905496880 tw17510762571770441907 tw6665358308257061264 tw3762722171303842792 tw13393817597189960038 tw12499830397923904981 tw8255008950614487427 tw15928046546707682496 tw14433300347465788745 tw513507301594488727 tw2898390845426991922 tw14153782428526059856 tw13308955945018358350 tw6799811945709180545 tw10831448662385073342 tw3450478003707858310 tw17367652007025405588 tw1129639400560961407 tw4620324579143215863 tw15074672718506923646 tw5611110444975999073 tw10395902430261957436 tw2637972895234063318 tw3795356807762706214 tw17750003681433408832 tw2238728670140737475 tw14936739061481228684 tw5905139459444992442 tw13455543395371503027 tw5079224052160246267 tw17500099751470808224 tw16759524110841723592 tw12458627111653880971 tw3374433102306654578 tw12529050769633128459 tw11127786422347368905 tw14484905974987110873 tw482475066326476533 tw16764578737294027866 tw15261015903065251903 tw14492402131536760118 tw11917734470056901152 tw14087146595469683222 tw18204755262778278303 tw17964865132674523305 tw16166007295199611831 tw15133705716409441070 tw16252310930933069008 tw16307917125720597783 tw4572373540662496404 tw6259618963538408269 tw12827769519802704724 tw12359429995660156622 tw15207129214982178998 tw9200331130547066703 tw5679510804366285660 tw691608360308700874 tw12648025193084224355 tw15601599565012072106 tw4766807786808779513 tw5513890111292635111 tw1621725106344346786 tw10501064868222387483 tw4223182060123439961 tw3485924452555516483 tw16965055905833124289 tw1827617257165043567 tw9677567679662268363 tw17461261943578294909 tw8220062552256628991 tw6323876934097107778 tw9579108447262348524 tw5912637664327085153 tw11594599105509156160 tw10426711965045246277 tw11833274290246422074 tw6595736396548321131 tw16193426305031906450 tw8487615482767063927 tw11609965153754581445 tw712440967570082185 tw16073651694721848076 tw6059643015627334035 tw15148824737586473636 tw7507059244686380606 tw8936896899879295115 tw56352171967850061 tw16550444511725430671 tw8489745825617603891 tw5391110742331677305 tw16473870225026088159 tw2814603540645243823 tw5246466318890872052 tw8711199420622421257 tw14903710198941156137 tw4631823350652059080 tw2277308723705473077 tw13890947584693534118 tw9594187614208171521 tw15442791799758543464 tw2560242506426454811 tw112205469053326911 tw9918800267647535935 tw11874718466692418329 tw18063999837404724055 tw3984040562954218966 tw6824305742910296477 tw32589960959167035 tw15569823378391887146 tw3144292331965620867 tw6174299633741368584 tw17692465013380327746 tw13751238404515420752 tw12316613465987250170 tw8387204899145493064 tw14398343245553529887 tw9262990937811804451 tw18165376285083888962 tw13399871982964733226 tw6456610919682656596 tw2736854634064041296 tw12876310367825205180 tw11986351035557050658 tw6294298700741901639 tw3462058860951795714 tw792507871499736012 tw16087339650794803415 tw9795811611442175106 tw18067750495736160538 tw11789586121399431958 tw16047885309354894799 tw4204073971651054548 tw2001501272497894977 tw17408394045749981398 tw2529229898807156246 tw15189572560755220518 tw12416811976384138428 tw13687341293369230131 tw6560782172375153514 tw15629808333118064289 tw12590737401953362528 tw11592820745915152500 tw18276746663145048889 tw17761266099533636881 tw14485687045051842567 tw17839776008542003510 tw14934784178400089103 tw307627150815160056 tw14074056271903785788 tw6711218656276198422 tw7016328106277650876 tw7778573790863579325 tw8835032870694029464 tw8064125425444669473 tw5807164917561785430 tw16699601197773051026 tw9743167872701042921 tw13165945515814850867 tw13456700162675785398 tw4839817845812354905 tw11459578649811591727 tw4629910747064238264 tw14239481862655440492 tw335325388085517532 tw15698014259296602624 tw10907406503807975678 tw3676909615504396524 tw8767641033795084540 tw2595869473540835998 tw41618770563973503 tw8803020529445727728 tw16945299461264056619 tw1403504257551383897 tw2675453308827847931 tw9855474688254039519 tw8882104242047378729 tw3396991782444704339 tw17635336856940929764 tw11380867104232628512 tw4221464906308875777 tw961105756973332000 tw12374070992509806798 tw657925565414512500 tw15897906477554458145 tw5460879127904114156 tw5983051901895395384 tw13703923293749003739 tw681608721601760482 tw2893682786222186181 tw5242051955546029626 tw17718906607829036191 tw1733442273553059943 tw5927558776563726061 tw13806877465649072596 tw1184819520236535670 tw8468442721567319356 tw8093098853889190327 tw7086990659085582899 tw10755290611765531083 tw10313017797363824677 tw4346497656896923589 tw1745563917105149032 tw17375579902727793985 tw4373744801121504650 tw2406757337654399511 tw6973849612008939511 tw2640089185043853399 tw11897652564027123772 tw7051128714898966282 tw14326863171293249387 tw5764632644479090535 tw7448518943684883354 tw14941410024575666650 tw17873730800895466610 tw4009922224204229302 tw7617675242803800399 tw7796134705096645219 tw11952342513140166988 tw15993931932818526335 tw8901308373616676278 tw1285201616039758242 tw12186367774003113660 tw11380023018949679330 tw13942202343655818402 tw751584847912869025 tw11602583891395578285 tw15472909896652386179 tw12864774331099733754 tw15307530594264407389 tw6786397195878767154 tw9776686261196103713 tw425477911947017095 tw588605320233702763 tw13623342254593494036 tw14120408707604324988 tw11878356529343497781 tw1857607854322249662 tw6093202879357128747 tw2174539624869228074 tw4452358693877626550 tw2919866411540474876 tw15012357871743611538 tw10228714556335530720 tw15600145280996977890 tw2160389416100932292 tw10503836336059832707 tw1644141021047700572 tw10399710496849305946 tw5523805516548206071 tw2302907265987555664 tw12727955731865861715 tw1631485636903521498 tw6807676558488219908 tw7819045654811300692 tw14830998923559819146 tw11178848786082849399 tw15834449856742497164 tw15624721558454726960 tw17215250592147900161 tw2976906316439818465 tw6303065975593821987 tw8785299474654485708 tw16255036887149948677 tw7620586705450582050 tw5462335238876266498 tw16775850255639252447 tw5409733128995029559 tw2319417716807704724 tw8234624944280242099 tw3664265740981181178 tw1056160853214006841 tw8766764515831434634 tw11115840826379848417 tw9192691075914586188 tw1974653844393719078 tw7294967967403008224 tw7790578853664384431 tw17463994327471276861 tw5014686359651920922 tw10020669097173057117 tw4816694839228557011 tw11260311368714022828 tw6598405725465432094 tw1296604919818692418 tw4820479602006539737 tw14578876171533895853 tw6191534387399739514 tw4835901447380382009 tw15198390269360157049 tw17889152573312360352 tw11269143239941506818 tw16976168758896857602 tw17889561756935003489 tw17634929350656649763 tw1363977260649630639 tw3269099305028591821 tw4491535510760240162 tw2322334872585160566 tw5881841010196242474 tw12864328259286059981 tw12863949989610815552 tw6054261233028008962 tw4991726719706639458 tw5113761504727551217 tw17062417767205301771 tw11265131870974452514 tw11962122569606988168 tw12111407032482541874 tw176391751116945003 tw14894641252044602311 tw18270497919707972911 tw10006569383295035574 tw7889892263283278789 tw7477078990196135192 tw17953693532317072694 tw16219810885236935054 tw8898211892573076055 tw9526047600022044614 tw14954566939574117031 tw14677537879847790206 tw5934367173089351295 tw7875386760500396789 tw3255040085922340829 tw4402735974109642675 tw18152591530450136309 tw16907916240567144098 tw3919856472985372328 tw13494280939787626016 tw15122851524419160883 tw12126951456142170429 tw9041484686547094130 tw2421434323901352369 tw15204790851394396168 tw3761041504373942683 tw10274315256434204354 tw11170139995350860741 tw5689874838661287195 tw13059198257237909129 tw17273906685589430235 tw11364560573401002211 tw2925369032390898663 tw13867001288027413285 tw5116332580511687477 tw10621401287048640 tw15199991822366937538 tw17348806133276362649 tw953596485023393562 tw4638058606214828648 tw10958069672295918267 tw8346136971059478587 tw16274636212286893203 tw13295485183658179324 tw8980672305244326791 tw15340399104527972482 tw5219568319090841552 tw4790110228128651730 tw9955718656125978862 tw13233938949557658728 tw16930710950731303831 tw4851974841758742019 tw5273627617209739707 tw2311788962381547052 tw7373590013783033607 tw1641250306482778962 tw7798562219814219024 tw320653664809865781 tw10817874497589225409 tw17472602024552476256 tw11021104464613798977 tw8602275604154242755 tw17689251461143484925 tw13584799594213134626:True)
open PySem PySem.W PyProof.Rows
local macro_rules | `(tactic| walk_at "fd")=>`(tactic| (refine' L2.Yg.mk ?a ?b ?c ?d ?e; (case a=>k_is); (case b=>k_is); (case c=>k_is); (case d=>k_is); (case e=>k_is)))
local macro_rules | `(tactic| walk_at "fn")=>`(tactic| (refine' L2.jR.mk ?a ?b ?c ?d; (case a=>k_is); (case b=>k_is); (case c=>k_is); (case d=>k_is)))
local macro_rules | `(tactic| walk_at "nb")=>`(tactic| (unfold L2.Nb; k_is))
local macro_rules | `(tactic| walk_at "ni")=>`(tactic| (refine' L2.Ni.mk ?a; (case a=>k_is)))
local macro_rules | `(tactic| walk_at "ns")=>`(tactic| (refine' L2.zW.mk ?a; (case a=>k_is)))
local macro_rules | `(tactic| walk_at "nt")=>`(tactic| (refine' L2.NT.mk ?a ?b; (case a=>k_is); (case b=>k_is)))
set_option maxRecDepth 100000 in
set_option maxHeartbeats 0 in
theorem PySem.Challenge.cw_waithands_k85_whole_broken_loads_the_sho_holds : PySem.Challenge.rw_waithands_k85_whole_broken_loads_the_sho.Holds := by
 w_on; o_law; k_head; (case hw=>w_witness2)
 k_fill
 refine K85.walk (l:=PySem.Challenge.rw_waithands_k85_whole_broken_loads_the_sho) rfl rfl (fun w h Y=>PySem.W.kIn_of Y) ?F
 case F=>
  intro w mg fa h KX G hmg
  refine' K85.all_mk KX G hmg ?e0 ?e1 ?e2 ?e3 ?e4 ?e5 ?e6 ?e7 ?e8 ?e9 ?e10 ?Iw ?vA ?N7 ?Ku ?Ks ?QL ?e17 ?e18 ?e19 ?e20 ?e21 ?e22 ?Zb ?e24 ?e25 ?e26 ?e27 ?e28 ?e29 ?e30 ?e31 ?e32 ?e33 ?e34 ?e35 ?e36 ?e37 ?e38 ?e39 ?e40 ?e41 ?e42 ?e43 ?e44 ?e45 ?e46 ?e47 ?e48 ?e49 ?e50 ?e51 ?e52 ?e53 ?e54 ?e55 ?e56 ?e57 ?e58 ?e59 ?e60 ?e61 ?e62 ?e63 ?e64 ?e65 ?e66 ?e67 ?e68 ?e69 ?e70 ?e71 ?e72 ?e73 ?e74 ?e75 ?e76 ?e77 ?e78 ?e79 ?e80 ?e81 ?e82 ?e83 ?e84 ?e85 ?e86 ?e87 ?e88 ?e89 ?e90 ?e91 ?e92 ?e93 ?e94 ?e95 ?e96 ?e97 ?e98 ?e99 ?af7 ?af6 ?af5 ?af4 ?af3 ?af2 ?af1 ?af0 ?afZ ?afY ?afX
  case e0 | e1 | e2 | e3 | e4 | e5 | e6 | e7=>walk_at "fn"
  case e8=>walk_at "fd"
  case e9 | e10 | Iw | vA | N7 | Ku | Ks=>walk_at "fn"
  case QL | e17 | e18=>walk_at "fd"
  case e19 | e20 | e21 | e22 | Zb | e24 | e25 | e26 | e27 | e28 | e29 | e30 | e31 | e32 | e33 | e34 | e35 | e36 | e37 | e38 | e39 | e40 | e41 | e42 | e43 | e44=>walk_at "fn"
  case e45 | e46 | e47 | e48 | e49 | e50 | e51 | e52 | e53 | e54=>k_is
  case e55 | e56=>k_exc
  case e57 | e58 | e59 | e60=>kts_exm
  case e61 | e62 | e63 | e64 | e65 | e66 | e67 | e68 | e69 | e70 | e71 | e72=>k_is
  case e73 | e74 | e75 | e76 | e77 | e78 | e79 | e80=>kit_is
  case e81 | e82=>k_is
  case e83 | e84 | e85 | e86 | e87 | e88 | e89 | e90 | e91 | e92 | e93 | e94 | e95 | e96 | e97 | e98 | e99 | af7=>walk_at "nb"
  case af6=>walk_at "nt"
  case af5 | af4 | af3=>walk_at "ns"
  case af2 | af1 | af0 | afZ=>walk_at "ni"
  case afY | afX=>walk_at "ns"

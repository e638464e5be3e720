import PyProof.Rows.All
import Wide.All
import OpenK.AllK
import Wide.FinOn
import Lean
import PyProof.EqAt
import PyProof.EqKinds
import PyProof.TupleCall
import PyProof.P3In
import PyProof.NeData
import KE.KMinKey
import PyProof.Rows.CallKwBuiltin
import PyProof.LayNew
import PyProof.EnumFor
import PyProof.EnumMake
import PyProof.EnumStmt
import KE.KRevIter
import KE.KRevSl
import PyProof.StationsW
import PyProof.RulesAs
import KE.KTryMore
import PyProof.Rows.TopTwo
import PyProof.NsDelKeeps
import PyProof.ExcArgsOwn
import KE.KIsAll
import PyProof.AutoListH
import PyProof.SetRoads
import PyProof.SetNew
import PyProof.ListRange
import PyProof.Rows.TupDisplay
import PyProof.Draws
import PyProof.ZipIter
import PyProof.TupleIter
import PyProof.AttrMissSeq
import KE.KDictOf
import PySem.Challenge.RW_waithands_k97_whole_things_of_any_make
set_option Elab.async false
set_option linter.all false
set_option maxRecDepth 100000
section
open PySem PySem.Spec PyProof.Rows
abbrev a_:=@Nat.le_refl
abbrev bJ:=@wpAny_bind
abbrev gF:=@Heap.get?_push_of_some
abbrev pB:=@List.getElem?_eq_getElem
abbrev jh:=@List.length_map
abbrev kO:=@List.size_toArray
abbrev gA:=@Heap.lt_size
abbrev fG:=@wpAny_pure
abbrev jE:=@List.mem_cons
abbrev ym:=@List.getD_eq_getElem?_getD
abbrev fj:=@List.length_cons
abbrev gY:=@List.mem_cons_of_mem
abbrev gj:=@List.mem_cons_self
abbrev dC:=@Nat.le_trans
abbrev gW:=@Heap.get?_push_size
abbrev jl:=@List.mem_append_right
abbrev eV:=@decide_eq_true
abbrev lL:=@List.getElem?_eq_some_iff
abbrev gU:=@List.getElem?_map
abbrev eF:=@Nat.ne_of_lt
abbrev bj:=@if_pos
abbrev jk:=@List.length_append
abbrev jj:=@of_decide_eq_true
abbrev jF:=@Nat.lt_of_lt_of_le
abbrev iC:=@List.all_eq_true
abbrev bB:=@if_neg
abbrev ji:=@decide_eq_false
abbrev lK:=@List.mem_singleton
abbrev lJ:=@Bool.false_ne_true
abbrev gR:=@List.map_cons
abbrev fW:=@Nat.zero_le
abbrev lH:=@List.lookup_cons
abbrev lG:=@Bool.and_eq_true
abbrev nQ:=@wpAny_truthy_bool
abbrev jX:=@wpAny_holding
abbrev mJ:=@List.mem_append
abbrev uA:=@List.length_replicate
abbrev vQ:=@Option.isSome_iff_exists
abbrev lF:=@Nat.le_of_lt
abbrev rA:=@Int.toNat_natCast
abbrev uz:=@wpAny_loadPart_at
abbrev uy:=@List.not_mem_nil
abbrev vP:=@Int.emod_lt_of_pos
abbrev zO:=@lookup_relabel_local
abbrev vO:=@List.length_take
abbrev vN:=@List.getElem_mem
abbrev ux:=@Heap.size_push
abbrev vM:=@Int.emod_nonneg
abbrev uw:=@Nat.lt_irrefl
abbrev uv:=@List.sum_cons
abbrev zN:=@wpAny_newObj_type
abbrev pA:=@wpAny_mono
abbrev lE:=@congrArg
abbrev Gd:=@List.getElem?_append_right
abbrev zM:=@List.length_drop
abbrev Gb:=@List.getElem?_append_left
abbrev zL:=@Bool.eq_iff_iff
abbrev CT:=@wpAny_Call_Name_kw
abbrev Jk:=@List.set_eq_take_append_cons_drop
abbrev CQ:=@wpAny_pyIter_list
abbrev CP:=@Nat.lt_succ_of_lt
abbrev zK:=@List.mem_range
abbrev Ga:=@List.getElem?_toArray
abbrev CN:=@List.take_length
abbrev F_:=@List.mem_of_getElem?
abbrev FZ:=@List.mem_append_left
abbrev FW:=@Heap.get?_none_of_le
abbrev CJ:=@wpAny_passesOwn
abbrev CG:=@List.length_nil
abbrev Cz:=@List.append_nil
abbrev zJ:=@wpAny_typeOf
abbrev zH:=@List.mem_map
abbrev zG:=@List.map_map
abbrev FT:=@Nat.one_le_two_pow
abbrev FQ:=@Nat.min_eq_right
abbrev Jj:=@List.getElem?_replicate
abbrev zF:=@wpAny_call
abbrev Ji:=@List.take_of_length_le
abbrev Jh:=@List.drop_of_length_le
abbrev Cy:=@List.all_map
end
namespace L2
open PySem PySem.Spec PyProof.Rows
abbrev Key:=Sum Int Str
def qp:Key->Value->Bool
 | .inl k,v=>Value.isInt k v
 | .inr x,v=>Value.isStrOf x v
def O7 (w:World):Key->Int
 | .inl k=>hashInt k
 | .inr x=>hashStr w x
theorem bG:∀{k:Key} {v:Value},qp k v=true->(∃i t,k=Sum.inl i/\v=Value.int i t)\/(∃x t,k=Sum.inr x/\v=Value.str x t)
 | .inl i,v,h=>by
  obtain⟨t,e⟩:=Value.isInt_shape (k:=i) (v:=v) h;exact .inl ⟨i,t,rfl,e⟩
 | .inr x,v,h=>by
  obtain⟨t,e⟩:=Value.isStrOf_shape (x:=x) (v:=v) h;exact .inr ⟨x,t,rfl,e⟩
theorem Ai (i:Int) (t:Tok):qp (.inl i) (.int i t)=true:=by simp[qp,Value.isInt]
theorem Ah (x:Str) (t:Tok):qp (.inr x) (.str x t)=true:=by simp[qp,Value.isStrOf]
theorem JL (a b:Int):decide ((Sum.inl a:Key)=Sum.inl b)=(a==b):=by
 by_cases e:a=b
 ·subst e; simp
 ·have h:¬(Sum.inl a:Key)=Sum.inl b:=fun q=>e (Sum.inl.inj q);rw[ji h];exact(beq_eq_false_iff_ne.mpr e).symm
theorem JF (a b:Str):decide ((Sum.inr a:Key)=Sum.inr b)=decide (a=b):=by
 by_cases e:a=b
 ·subst e; simp
 ·have h:¬(Sum.inr a:Key)=Sum.inr b:=fun q=>e (Sum.inr.inj q);rw[ji h,ji e]
theorem JK (a:Int) (b:Str):decide ((Sum.inl a:Key)=Sum.inr b)=false:=ji (fun q=>nomatch q)
theorem JG (a:Str) (b:Int):decide ((Sum.inr a:Key)=Sum.inl b)=false:=ji (fun q=>nomatch q)
def cC (prog:Program) (w:World):PySem.KeyKind prog w Key where
 is:=qp
 hash:=O7 w
 inj:=fun v a b ha hb=>by
  rcases bG ha with⟨i,t,rfl,rfl⟩ | ⟨x,t,rfl,rfl⟩
  ·rcases bG hb with⟨j,u,rfl,e⟩ | ⟨y,u,rfl,e⟩
   ·injection e with e1 _; rw[e1]
   ·exact nomatch e
  ·rcases bG hb with⟨j,u,rfl,e⟩ | ⟨y,u,rfl,e⟩
   ·exact nomatch e
   ·injection e with e1 _; rw[e1]
 byValue:=fun k v h=>by
  rcases bG h with⟨i,t,rfl,rfl⟩ | ⟨x,t,rfl,rfl⟩ <;> rfl
 pyHash:=fun hv h=>by
  rcases bG hv with⟨i,t,rfl,rfl⟩ | ⟨x,t,rfl,rfl⟩
  ·exact wpAny_pyHash_int h
  ·exact wpAny_pyHash_str h
 eqBool:=fun hu hv h=>by
  rcases bG hu with⟨i,t,rfl,rfl⟩ | ⟨x,t,rfl,rfl⟩
  ·rcases bG hv with⟨j,u,rfl,rfl⟩ | ⟨y,u,rfl,rfl⟩
   ·rw[JL] at h; exact wpAny_eqBool_int h
   ·rw[JK] at h; exact SeqAt.EqAt.int_str i t y u _ _ _ _ h
  ·rcases bG hv with⟨j,u,rfl,rfl⟩ | ⟨y,u,rfl,rfl⟩
   ·rw[JG] at h; exact SeqAt.EqAt.str_int x t j u _ _ _ _ h
   ·rw[JF] at h; exact wpAny_eqBool_str h
 «strs»:=fun k x t v h=>by
  rcases bG h with⟨i,u,rfl,e⟩ | ⟨y,u,rfl,e⟩
  ·exact nomatch e
  ·injection e with e1 _
   subst e1;cases v <;> rfl
theorem uP (prog:Program) (w:World) (i:Int) (t:Tok):(cC prog w).is (.inl i) (.int i t)=true:=Ai i t
theorem uO (prog:Program) (w:World) (x:Str) (t:Tok):(cC prog w).is (.inr x) (.str x t)=true:=Ah x t
inductive V where
 | non | bl (b:Bool) | int (i:Int) | str (x:Str) | Bs (b:Array UInt8) | flt (b:UInt64) | ref (a:Addr) | ty (n:String)
 deriving DecidableEq
def RelV:V->Value->Prop
 | .non,u=>u=Value.none
 | .bl b,u=>u=Value.bool b
 | .int i,u=>∃t,u=Value.int i t
 | .str x,u=>∃t,u=Value.str x t
 | .Bs b,u=>∃t,u=Value.bytes b t
 | .flt b,u=>∃t,u=Value.float b t
 | .ref a,u=>u=Value.ref a
 | .ty n,u=>u=Value.type n
abbrev Vals:List V->List Value->Prop:=Paired RelV
theorem Vals.length {xs:List V} {us:List Value} (r:Vals xs us):xs.length=us.length:=Paired.length r
theorem Vals.get:∀{xs:List V} {us:List Value} {i:Nat} {x:V},Vals xs us->xs[i]?=some x->∃u,us[i]?=some u/\RelV x u
 | _,_,_,_,.nil,e=>by simp at e
 | _,_,0,_,.cons r _,e=>by simp at e; subst e; exact⟨_,rfl,r⟩
 | _,_,i+1,x,.cons _ t,e=>by
  obtain⟨u,h1,h2⟩:=Vals.get (i:=i) (x:=x) t (by simpa using e)
  exact⟨u,by simpa using h1,h2⟩
theorem Vals.set {x:V} {u:Value} (r:RelV x u):∀{xs:List V} {us:List Value} (i:Nat),Vals xs us->Vals (xs.set i x) (us.set i u)
 | _,_,_,.nil=>.nil
 | _,_,0,.cons _ t=>.cons r t
 | _,_,i+1,.cons q t=>.cons q (Vals.set r i t)
theorem Vals.append:∀{xs ys:List V} {us ws:List Value},Vals xs us->Vals ys ws->Vals (xs++ys) (us++ws)
 | _,_,_,_,.nil,s=>s
 | _,_,_,_,.cons r t,s=>.cons r (Vals.append t s)
theorem Vals.take:∀{xs:List V} {us:List Value} (n:Nat),Vals xs us->Vals (xs.take n) (us.take n)
 | _,_,0,_=>.nil
 | _,_,_+1,.nil=>.nil
 | _,_,n+1,.cons r t=>.cons r (Vals.take n t)
theorem Vals.drop:∀{xs:List V} {us:List Value} (n:Nat),Vals xs us->Vals (xs.drop n) (us.drop n)
 | _,_,0,r=>r
 | _,_,_+1,.nil=>.nil
 | _,_,n+1,.cons _ t=>Vals.drop n t
def J7:Option V->Option Value->Prop
 | some v,some u=>RelV v u
 | none,none=>True
 | _,_=>False
def KV {κ:Type}:List (κ×V)->List (κ×Value)->Prop:=Paired fun(p:κ×V) (q:κ×Value)=>p.1=q.1/\RelV p.2 q.2
def kV:Key->V
 | .inl i=>.int i
 | .inr x=>.str x
inductive HO where
 | lst (xs:List V)
 | tup (xs:List V)
 | dK (kvs:List (Key×V)) | dT (kvs:List (List Key×V))
 | set (S:Int->Bool) (n:Nat)
 | ins (C dx:Addr) (fs:List (Str×V))
 | own (x:Addr)
 | xd (fs:List (Str×V))
 | met (f x:Addr)
 | Nj (lo hi:Int)
 | vq (o:Obj) (u:HO)
 | Hs (ps:Array Value)
 | ext (φ:Heap->Prop)
abbrev Hp:=Addr->Option HO
def upd (H:Hp) (a:Addr) (o:HO):Hp:=fun b=>if b=a then some o else H b
theorem aA {H:Hp} {a:Addr} {o:HO}:upd H a o a=some o:=by unfold upd; rw[bj rfl]
theorem aL {H:Hp} {a b:Addr} {o:HO} (h:b≠a):upd H a o b=H b:=by unfold upd; rw[bB h]
theorem qY {H:Hp} {a:Addr} {o u:HO}:upd (upd H a o) a u=upd H a u:=by
 funext b; unfold upd; split <;> rfl
theorem bf {H:Hp} {a b:Addr} {o:HO} (h:H a=some o) (h':H b=none):a≠b:=by
 intro e; subst e; rw[h] at h'; cases h'
section
variable (P:Program) (w:World)
def bD (H:Hp) (h:Heap) (a:Addr):HO->Prop
 | .lst xs=>xs.length<=sizeLine/\∃(its:List Value) (n:Nat),Vals xs its/\h.get? a=some { cls:=.type "list",data:=.seq its.toArray n }
 | .tup xs=>xs.length<=sizeLine/\∃its:List Value,Vals xs its/\IsTup h a its.toArray
 | .dK kvs=>kvs.length<=sizeLine/\(a==sysModules)=false/\∃vs,KV kvs vs/\h.DictOf (cC P w) a vs
 | .dT kvs=>kvs.length<=sizeLine/\(a==sysModules)=false/\∃xs:List (List Key×Addr×Value),
   Paired (fun(p:List Key×V) (q:List Key×Addr×Value)=>p.1=q.1/\H q.2.1=some (.tup (p.1.map kV))/\RelV p.2 q.2.2) kvs xs /\
   ∃o es ep,h.get? a=some o/\o.ExactDict/\o.data=.dict es ep/\es.toList=xs.map (entryOfKey (tupleKind (cC P w)))/\(xs.map (·.1)).Nodup
 | .set S n=>h.SetOf (intKind P w) a S n
 | .ins C dx fs=>H dx=some (.own a)/\fs.length<=1000/\dx≠a/\h.get? a=some (PySem.W.instObj C dx) /\
   ∃mA,h.Ns1 dx mA/\(∀f,J7 (fs.lookup f) (mA f))/\PySem.Within mA (fs.map (·.1))
 | .own _=>∃o,h.get? a=some o
 | .xd fs=>∃mA,h.Ns1 a mA/\∀f,J7 (fs.lookup f) (mA f)
 | .Nj lo hi=>∃t u v,h.get? a=some { cls:=.type "range",data:=.fields #[.int lo t,.int hi u,.int 1 v] }
 | .vq o u=>h.get? a=some o/\bD H h a u
 | .Hs ps=>h.get? a=some { cls:=.none,data:=.fields ps }
 | .met f x=>h.get? a=some (PySem.W.methodObj (.ref f) (.ref x))
 | .ext φ=>φ h/\(∃o,h.get? a=some o)/\∀h1 h2:Heap,φ h1->(∀o,h1.get? a=some o->h2.get? a=some o)->φ h2
def gr (H:Hp) (h:Heap):Prop:=∀a o,H a=some o->bD P w H h a o
end
section
variable {P:Program} {w:World} {H H':Hp} {h h':Heap} {a:Addr} {o:HO}
theorem bD.lt (x:bD P w H h a o):a<h.objs.size:=by
 cases o with
 | lst xs=>obtain⟨_,_,_,_,e⟩:=x; exact gA e
 | tup xs=>obtain⟨_,_,_,p⟩:=x; exact p.lt
 | dK kvs=>obtain⟨_,_,_,_,o,_,_,e,_⟩:=x; exact gA e
 | dT kvs=>obtain⟨_,_,_,_,o,_,_,e,_⟩:=x; exact gA e
 | set S n=>obtain⟨o,_,_,_,e,_⟩:=x; exact gA e
 | ins C dx fs=>obtain⟨_,_,_,e,_⟩:=x; exact gA e
 | own y=>obtain⟨_,e⟩:=x; exact gA e
 | xd fs=>obtain⟨_,⟨_,_,_,e,_⟩,_⟩:=x; exact gA e
 | Nj lo hi=>obtain⟨_,_,_,e⟩:=x; exact gA e
 | vq ob u=>obtain⟨e,_⟩:=x; exact gA e
 | Hs ps=>exact gA (show h.get? a=some _ from x)
 | met f y=>exact gA (show h.get? a=some _ from x)
 | ext φ=>obtain⟨_,⟨_,e⟩,_⟩:=x; exact gA e
theorem Paired.Ml {α β:Type} {F G:α->β->Prop}:∀{l₁:List α} {l₂:List β},Paired F l₁ l₂->(∀a b,F a b->G a b)->Paired G l₁ l₂
 | _,_,.nil,_=>.nil
 | _,_,.cons r t,f=>.cons (f _ _ r) (Paired.Ml t f)
theorem bD.stay (x:bD P w H h a o) (k:∀b u,(b=a\/H b=some (.own a))->h.get? b=some u->h'.get? b=some u)
  (ho:∀b,H b=some (.own a)->H' b=some (.own a)) (ht:∀b xs,H b=some (.tup xs)->H' b=some (.tup xs)):bD P w H' h' a o:=by
 induction o with
 | lst xs=>obtain⟨z,its,n,r,e⟩:=x; exact⟨z,its,n,r,k _ _ (.inl rfl) e⟩
 | tup xs=>obtain⟨z,its,r,ob,e,c⟩:=x; exact⟨z,its,r,ob,k _ _ (.inl rfl) e,c⟩
 | dK kvs=>obtain⟨z,y,vs,r,ob,es,ep,e,c⟩:=x; exact⟨z,y,vs,r,ob,es,ep,k _ _ (.inl rfl) e,c⟩
 | dT kvs=>
  obtain⟨z,y,xs,r,ob,es,ep,e,c⟩:=x;exact⟨z,y,xs,Paired.Ml r fun p q z=>⟨z.1,ht _ _ z.2.1,z.2.2⟩,ob,es,ep,k _ _ (.inl rfl) e,c⟩
 | set S n=>obtain⟨ob,es,ep,t,e,c⟩:=x; exact⟨ob,es,ep,t,k _ _ (.inl rfl) e,c⟩
 | ins C dx fs=>
  obtain⟨d,z,ne,e,mA,⟨od,es,ep,e2,c⟩,r⟩:=x;exact⟨ho _ d,z,ne,k _ _ (.inl rfl) e,mA,⟨od,es,ep,k _ _ (.inr d) e2,c⟩,r⟩
 | own y=>obtain⟨ob,e⟩:=x; exact⟨ob,k _ _ (.inl rfl) e⟩
 | xd fs=>obtain⟨mA,⟨od,es,ep,e,c⟩,r⟩:=x; exact⟨mA,⟨od,es,ep,k _ _ (.inl rfl) e,c⟩,r⟩
 | Nj lo hi=>obtain⟨t,u,v,e⟩:=x; exact⟨t,u,v,k _ _ (.inl rfl) e⟩
 | vq ob u ih=>obtain⟨e,q⟩:=x; exact⟨k _ _ (.inl rfl) e,ih q⟩
 | Hs ps=>
  have e:h.get? a=some { cls:=.none,data:=.fields ps }:=x;show h'.get? a=some { cls:=.none,data:=.fields ps };exact k a _ (.inl rfl) e
 | met f y=>
  have e:h.get? a=some (PySem.W.methodObj (.ref f) (.ref y)):=x;show h'.get? a=some (PySem.W.methodObj (.ref f) (.ref y));exact k a _ (.inl rfl) e
 | ext φ=>obtain⟨p,⟨o,e⟩,st⟩:=x; exact⟨st _ _ p fun o q=>k _ _ (.inl rfl) q,⟨o,k _ _ (.inl rfl) e⟩,st⟩
theorem gr.lt (x:gr P w H h) (e:H a=some o):a<h.objs.size:=(x a o e).lt
theorem gr.fresh (x:gr P w H h) (e:h.objs.size<=a):H a=none:=by
 cases q:H a with
 | none=>rfl
 | some u=>exact absurd (jF (x.lt q) e) (uw _)
theorem gr.kept (x:gr P w H h) (k:∀b u,h.get? b=some u->h'.get? b=some u):gr P w H h':=fun a o e=>
 (x a o e).stay (fun b u _ q=>k b u q) (fun _ q=>q) fun _ _ q=>q
theorem gr.laid (x:gr P w H h) (k:∀b u,h.get? b=some u->h'.get? b=some u) (hp:h.objs.size<=a) (new:bD P w (upd H a o) h' a o):gr P w (upd H a o) h':=fun b u e=>by
 have hn:=x.fresh hp;by_cases hb:b=a
 ·subst hb; rw[aA] at e; cases e; exact new
 ·rw[aL hb] at e;exact(x b u e).stay (fun c v _ q=>k c v q) (fun c q=>by rw[aL (bf q hn)]; exact q) fun c xs q=>by rw[aL (bf q hn)]; exact q
end
def Rd (H:Hp) (a:Addr) (u:HO):Prop:=H a=some u\/∃o,H a=some (.vq o u)
theorem Rd.ok {P:Program} {w:World} {H:Hp} {h:Heap} {a:Addr} {u:HO} (r:Rd H a u) (x:gr P w H h):bD P w H h a u:=by
 rcases r with r | ⟨o,r⟩
 ·exact x a u r
 ·obtain⟨_,q⟩:=x a _ r;exact q
def MN:Option HO->Prop
 | some (.lst _)=>True
 | some (.dK _)=>True
 | some (.dT _)=>True
 | some (.set _ _)=>True
 | some (.ins _ _ _)=>True
 | some (.ext _)=>True
 | _=>False
section
variable {P:Program} {w:World} {H:Hp} {h h':Heap} {x e:Addr} {o':HO}
theorem gr.write (ok:gr P w H h) (mu:MN (H x)) (he:e=x\/H e=some (.own x)) (k:∀b u,b≠e->h.get? b=some u->h'.get? b=some u) (heo:∃u,h'.get? e=some u)
  (new:bD P w (upd H x o') h' x o'):gr P w (upd H x o') h':=fun b u q=>by
 have Ma:∀c y,H c=some (.own y)->c≠x:=fun c y r z=>by subst z; rw[r] at mu; exact mu
 have OD:∀c xs,H c=some (.tup xs)->c≠x:=fun c xs r z=>by subst z; rw[r] at mu; exact mu
 by_cases hb:b=x
 ·subst hb; rw[aA] at q; cases q; exact new
 ·rw[aL hb] at q;by_cases hbe:b=e
  ·have q':H b=some (.own x):=by
    rcases he with z | z
    ·exact absurd (hbe.trans z) hb
    ·rw[hbe]; exact z
   rw[q] at q'; cases q';obtain⟨v,hv⟩:=heo;exact⟨v,by rw[hbe]; exact hv⟩
  ·refine(ok b u q).stay (fun c v hc r=>k c v ?_ r) (fun c r=>by rw[aL (Ma c b r)]; exact r) fun c xs r=>by rw[aL (OD c xs r)]; exact r
   rcases hc with rfl | hc
   ·exact hbe
   ·rintro rfl;rcases he with z | z
    ·exact Ma c b hc z
    ·rw[hc] at z; cases z; exact hb rfl
end
structure Un (fs ex:List Addr) (H H':Hp) (h h':Heap):Prop where
 keep:∀b o,h.get? b=some o->H b=none->b∉fs->b∉ex->h'.get? b=some o
 slot:∀b o,h.get? b=some o->H b=none->b∈fs->b∉ex->∃sl,h'.get? b=some { o with slots:=sl }
 free:∀b o,h.get? b=some o->H b=none->b∉ex->H' b=none
 there:∀b o,h.get? b=some o->b∉ex->∃o',h'.get? b=some o'
 tups:∀b xs,H b=some (.tup xs)->H' b=some (.tup xs)
 sI:∀b o u,H b=some (.vq o u)->H' b=some (.vq o u)
 ue:∀b ps,H b=some (.Hs ps)->∃more,H' b=some (.Hs (ps++more))
section
variable {fs fs' ex ex':List Addr} {H H1 H2:Hp} {h h1 h2 h':Heap} {a x e:Addr} {o:HO}
theorem Un.any (u:Un fs ex H H1 h h1) {b:Addr} {ob:Obj} (q:h.get? b=some ob) (n:H b=none) (hx:b∉ex):∃sl,h1.get? b=some { ob with slots:=sl }:=by
 by_cases hb:b∈fs
 ·exact u.slot b ob q n hb hx
 ·exact⟨ob.slots,u.keep b ob q n hb hx⟩
theorem Un.kept (k:∀b u,h.get? b=some u->h'.get? b=some u):Un fs ex H H h h':=
 ⟨fun b ob q _ _ _=>k b ob q,fun b ob q _ _ _=>⟨ob.slots,k b ob q⟩,fun _ _ _ n _=>n,fun b ob q _=>⟨ob,k b ob q⟩,fun _ _ q=>q,fun _ _ _ q=>q,fun _ ps q=>⟨#[],by rw[q]; simp⟩⟩
theorem Un.refl:Un fs ex H H h h:=Un.kept fun _ _ q=>q
theorem Un.laid (k:∀b u,h.get? b=some u->h'.get? b=some u) (hp:h.objs.size<=a) (hn:H a=none):Un fs ex H (upd H a o) h h' where
 keep:=fun b u q _ _ _=>k b u q
 slot:=fun b u q _ _ _=>⟨u.slots,k b u q⟩
 free:=fun b u q n _=>by rw[aL (eF (jF (gA q) hp))]; exact n
 there:=fun b u q _=>⟨u,k b u q⟩
 tups:=fun b xs q=>by rw[aL (bf q hn)]; exact q
 sI:=fun b u xs q=>by rw[aL (bf q hn)]; exact q
 ue:=fun b ps q=>⟨#[],by rw[aL (bf q hn),q]; simp⟩
theorem Un.write (mu:MN (H x)) (he:e=x\/H e=some (.own x)) (k:∀b u,b≠e->h.get? b=some u->h'.get? b=some u) (heo:∃u,h'.get? e=some u):Un fs ex H (upd H x o) h h':=by
 have hx:∀b,H b=none->b≠x:=fun b n z=>by subst z; rw[n] at mu; exact mu
 have hb:∀b,H b=none->b≠e:=fun b n z=>by
  subst z;rcases he with r | r
  ·exact hx b n r
  ·rw[n] at r; cases r
 have hm:∀b u,H b=some u->¬MN (some u)->b≠x:=fun b u q nm z=>by subst z; rw[q] at mu; exact nm mu
 refine⟨fun b u q n _ _=>k b u (hb b n) q,fun b u q n _ _=>⟨u.slots,k b u (hb b n) q⟩,fun b u q n _=>by rw[aL (hx b n)]; exact n,fun b u q _=>?_,
  fun b xs q=>by rw[aL (hm b _ q fun z=>z)]; exact q,fun b u xs q=>by rw[aL (hm b _ q fun z=>z)]; exact q,fun b ps q=>⟨#[],by rw[aL (hm b _ q fun z=>z),q]; simp⟩⟩
 by_cases hbe:b=e
 ·subst hbe; exact heo
 ·exact⟨u,k b u hbe q⟩
end
def M8 (h:Heap) (H:Hp):List Addr:=(List.range h.objs.size).filter fun a=>(H a).isSome
def sH (h:Heap) (H:Hp):Heap:=PySem.W.hideAll h (M8 h H)
theorem Am (h:Heap) (H:Hp):(sH h H).objs.size=h.objs.size:=PySem.W.hideAll_size _ _
theorem D_ {h:Heap} {H:Hp} {b:Addr} {o:Obj} (e:h.get? b=some o) (n:H b=none):(sH h H).get? b=some o:=
 PySem.W.hideAll_get _ e fun hm=>by
  have q:(H b).isSome=true:=(List.mem_filter.mp hm).2;rw[n] at q; simp at q
theorem Gx {h:Heap} {H:Hp} {b:Addr} {o:Obj} (e:(sH h H).get? b=some o):h.get? b=some o/\H b=none:=by
 have e':h.get? b=some o:=PySem.W.of_hideAll (M8 h H) e;refine⟨e',?_⟩;cases q:H b with
 | none=>rfl
 | some x=>
  have hm:b∈M8 h H:=List.mem_filter.mpr ⟨zK.mpr (gA e'),by simp[q]⟩
  have z:(sH h H).get? b=none:=PySem.W.hideAll_none (M8 h H) hm;rw[z] at e; cases e
def Ha (g h:Heap) (L:Addr):List (Addr×Obj):=(List.range h.objs.size).filterMap fun a=>if a=L\/(g.get? a).isSome=true then none else(h.get? a).map fun o=>(a,o)
def rest (g h:Heap) (L d:Addr):List (Addr×Obj):=(Ha g h L).filter fun p=>decide (p.1≠d)
structure Mod (K:PySem.W.Frag) (mg:Str->Option Value) (base:Heap):Prop where
 Nr:K.In base
 glob:base.Ns mainGlobals mg
 blt:∃mb,base.Ns builtinsNs mb/\∀x:Str,x ≠ "__name__" -> mb x=bootBuiltins x
 nolimit:base.NoLimit
structure Cx where
 prog:Program
 w:World
 K:PySem.W.Frag
 mg:Str->Option Value
 base:Heap
 A:Around
 N:List Str
 s₀:Shared
 H₀:Hp
 env:Env
 outer:List Env
 stack:List Env
 ex:List Addr
 fn:Str->Bool
 calm:Bool
 pn:List (Addr×Obj)
 xe:Value->Shared->Prop
def frs (l:List Env):List Addr:=l.filterMap (·.frame)
abbrev Cx.fs (X:Cx):List Addr:=frs X.outer
def Qg (sc:Scope) (x:Str):Prop:=sc.names.lookup x=some .local\/sc.names.lookup x=some .cell\/sc.names.lookup x=some .free
def Loc (sc:Scope) (x:Str):Prop:=sc.names.lookup x=some .local\/sc.names.lookup x=some .cell
def Look (env:Env) (h:Heap) (m:Str->Option Value) (x:Str) (u:Value):Prop:=
 (env.kindOf x=some .local/\m x=some u)\/((env.kindOf x=some .cell\/env.kindOf x=some .free)/\∃c,env.cells.lookup x=some c/\h.IsCell c (some u))
structure Cx.Ok (X:Cx):Prop where
 mod:Mod X.K X.mg X.base
 kind:X.env.scope.kind=.function
 glob:X.env.globals=mainGlobals
 blt:X.env.builtins=builtinsNs
 above:X.s₀.heap.objs.size<=X.env.locals
 inj:∀x y c,X.env.cells.lookup x=some c->X.env.cells.lookup y=some c->x=y
 has:∀x,(X.env.kindOf x=some .cell\/X.env.kindOf x=some .free)->∃c,X.env.cells.lookup x=some c
 cab:∀x c,X.fn x=true->X.env.cells.lookup x=some c->X.s₀.heap.objs.size<=c
 hd:X.calm=true->X.A.handled=none
 frames:X.A.frames=some X.stack
 Nf:X.stack=X.outer\/(X.stack=X.env::X.outer/\X.env.frame=some X.env.locals)
 Pu:∀b∈X.ex,b≠X.env.locals/\∀x c,X.env.cells.lookup x=some c->c≠b
 bs:∀b o,X.base.get? b=some o->X.s₀.heap.get? b=some o/\X.H₀ b=none
 Ex:X.base.objs.size<=X.s₀.heap.objs.size
 DK:∀b o,X.base.get? b=some o->b∉X.ex
 Eb:∀b∈X.ex,b∉X.fs
 mO:X.s₀.heap.FunFrames X.base X.outer
 JR:∀b∈X.fs,X.H₀ b=none
structure Inv (X:Cx) (pins:List (Addr×Obj)) (σ:List (Option V)) (H:Hp) (s:Shared):Prop where
 ok:X.Ok
 os:s.os=X.s₀.os
 bare:AllBare s.gens
 base:Un X.fs X.ex X.H₀ H X.s₀.heap s.heap
 loc:∃m,s.heap.Ns X.env.locals m/\∀(i:Nat) (x:Str) (v:V),X.N[i]?=some x->σ[i]?=some (some v)->Qg X.env.scope x->∃u,RelV v u/\Look X.env s.heap m x u
 cell:∀x c,X.env.cells.lookup x=some c->∃v,s.heap.IsCell c v
 free:H X.env.locals=none
 iM:∀x c,X.env.cells.lookup x=some c->H c=none
 pin:∀p∈X.pn++pins,s.heap.get? p.1=some p.2/\H p.1=none/\p.1≠X.env.locals/\p.1∉X.fs/\∀v,p.2.data≠.cell v
 hok:gr X.prog X.w H s.heap
 len:σ.length=X.N.length
section
variable {X:Cx} {pins:List (Addr×Obj)} {σ:List (Option V)} {H H':Hp} {s:Shared} {h':Heap}
theorem Cx.Ok.O1 (ok:X.Ok) {b:Addr} {o:Obj} (e:X.base.get? b=some o):b∉X.fs:=fun hb=>by
 have:=(ok.mO.mem hb).1;rw[e] at this; cases this
theorem Inv.bs (I:Inv X pins σ H s):∀b o,X.base.get? b=some o->s.heap.get? b=some o/\H b=none:=fun b o e=>
 ⟨I.base.keep b o (I.ok.bs b o e).1 (I.ok.bs b o e).2 (I.ok.O1 e) (I.ok.DK b o e),I.base.free b o (I.ok.bs b o e).1 (I.ok.bs b o e).2 (I.ok.DK b o e)⟩
theorem Inv.bk (I:Inv X pins σ H s):∀b o,X.base.get? b=some o->s.heap.get? b=some o:=fun b o e=>(I.bs b o e).1
theorem Inv.mod (I:Inv X pins σ H s):Mod X.K X.mg X.base:=I.ok.mod
theorem Inv.kW (I:Inv X pins σ H s):X.K.In s.heap:=I.ok.mod.Nr.keeps I.bk
theorem Inv.fr (I:Inv X pins σ H s):∃m,Fr X.base X.env.locals s.heap m:=
 let ⟨m,hn,_⟩:=I.loc
 ⟨m,hn,I.bk,dC I.ok.Ex I.ok.above⟩
theorem Inv.lt (I:Inv X pins σ H s):X.env.locals<s.heap.objs.size:=let ⟨_,hn,_⟩:=I.loc; hn.lt
theorem Inv.sz (I:Inv X pins σ H s):X.s₀.heap.objs.size<=s.heap.objs.size:=dC I.ok.above (lF I.lt)
theorem Inv.OJ (I:Inv X pins σ H s) {a:Addr} (h:s.heap.objs.size<=a):a∉X.fs:=fun hb=>by
 obtain⟨_,o,ho,_⟩:=I.ok.mO.mem hb;exact absurd (jF (gA ho) (dC I.sz h)) (uw _)
theorem Inv.JX (I:Inv X pins σ H s):∀x c,X.env.cells.lookup x=some c->c≠X.env.locals:=fun x c e z=>by
 obtain⟨v,o,ho,hd⟩:=I.cell x c e;obtain⟨m,⟨o',es,ep,ho',hd',_⟩,_⟩:=I.loc;rw[z,ho'] at ho; cases ho; rw[hd'] at hd; cases hd
theorem Inv.mO (I:Inv X pins σ H s):s.heap.FunFrames X.base X.outer:=by
 have all:∀(l:List Env),(∀b∈frs l,b∈X.fs)->X.s₀.heap.FunFrames X.base l->s.heap.FunFrames X.base l:=by
  intro l
  induction l with
  | nil=>intro _ _; trivial
  | cons env r ih=>
   intro hs hl;obtain⟨hk,⟨L,o,hf,hn,ho,hd⟩,hr⟩:=hl;have hL:L∈X.fs:=hs L (by unfold frs; rw[List.filterMap_cons,hf]; exact gj)
   obtain⟨sl,e⟩:=I.base.slot L o ho (I.ok.JR L hL) hL fun z=>I.ok.Eb L z hL;exact⟨hk,⟨L,_,hf,hn,e,hd⟩,ih (fun b hb=>hs b (by unfold frs; rw[List.filterMap_cons,hf]; exact gY _ hb)) hr⟩
 exact all X.outer (fun _ hb=>hb) I.ok.mO
theorem Inv.stack (I:Inv X pins σ H s):s.heap.FunFrames X.base X.stack:=by
 rcases I.ok.Nf with e | ⟨e,hf⟩
 ·rw[e]; exact I.mO
 ·rw[e];obtain⟨m,hn,_⟩:=I.loc;refine .cons (by rw[I.ok.kind]; decide) hf hn ?_ I.mO
  exact FW (dC I.ok.Ex I.ok.above)
theorem Inv.vJ (I:Inv X pins σ H s):∀b∈frs X.stack,b∈X.env.locals::X.fs:=fun b hb=>by
 rcases I.ok.Nf with e | ⟨e,hf⟩
 ·rw[e] at hb; exact gY _ hb
 ·rw[e] at hb;unfold frs at hb;rw[List.filterMap_cons,hf] at hb;exact hb
theorem Inv.q_ (I:Inv X pins σ H s):∀b∈frs X.stack,H b=none:=fun b hb=>by
 rcases jE.mp (I.vJ b hb) with e | hb
 ·rw[e]; exact I.free
 ·obtain⟨_,o,ho,_⟩:=I.ok.mO.mem hb;exact I.base.free b o ho (I.ok.JR b hb) fun z=>I.ok.Eb b z hb
theorem Inv.step {g':Array GenState} {t':Nat} {d':Drawn} {ch:List Addr} (I:Inv X pins σ H s)
  (hch:∀b∈ch,(b∈X.ex\/X.s₀.heap.objs.size<=b)/\b≠X.env.locals/\(∀x c,X.env.cells.lookup x=some c->c≠b)/\∀p∈X.pn++pins,p.1≠b)
  (keep:∀b o,b≠X.env.locals->b∉X.fs->b∉ch->s.heap.get? b=some o->H b=none->h'.get? b=some o)
  (slot:∀b o,b≠X.env.locals->b∈X.fs->b∉ch->s.heap.get? b=some o->H b=none->∃sl,h'.get? b=some { o with slots:=sl }) (free:∀b o,b∉ch->s.heap.get? b=some o->H b=none->H' b=none)
  (there:∀b o,b∉ch->s.heap.get? b=some o->∃o',h'.get? b=some o')
  (tups:∀b xs,H b=some (.tup xs)->H' b=some (.tup xs)) (sI:∀b o u,H b=some (.vq o u)->H' b=some (.vq o u)) (ue:∀b ps,H b=some (.Hs ps)->∃more,H' b=some (.Hs (ps++more)))
  (ns:∀m,s.heap.Ns X.env.locals m->h'.Ns X.env.locals m) (hok:gr X.prog X.w H' h') (hg:AllBare g') :
  Inv X pins σ H' { s with heap:=h',gens:=g',drawn:=d',toks:=t' }:=by
 have QR:∀b o,X.s₀.heap.get? b=some o->b≠X.env.locals:=fun b o e=>eF (jF (gA e) I.ok.above)
 have Nq:∀b o,X.s₀.heap.get? b=some o->b∉X.ex->b∉ch:=fun b o e hx hb=>by
  rcases(hch b hb).1 with z | z
  ·exact hx z
  ·exact absurd (jF (gA e) z) (uw _)
 have cellK:∀x c,X.env.cells.lookup x=some c->∀v,s.heap.IsCell c v->h'.IsCell c v:=fun x c e v ⟨o,ho,hd⟩=>by
  have Mi:c∉ch:=fun z=>(hch c z).2.2.1 x c e rfl;by_cases hc:c∈X.fs
  ·obtain⟨sl,q⟩:=slot c o (I.JX x c e) hc Mi ho (I.iM x c e);exact⟨_,q,hd⟩
  ·exact⟨o,keep c o (I.JX x c e) hc Mi ho (I.iM x c e),hd⟩
 refine⟨I.ok,I.os,hg,⟨fun b o e n hb hx=>?_,fun b o e n hb hx=>?_,fun b o e n hx=>?_,fun b o e hx=>?_,fun b xs e=>tups b xs (I.base.tups b xs e),fun b o xs e=>sI b o xs (I.base.sI b o xs e),fun b ps e=>?_⟩,?_,fun x c e=>?_,?_,fun x c e=>?_,fun p hp=>?_,hok,I.len⟩
 ·exact keep b o (QR b o e) hb (Nq b o e hx) (I.base.keep b o e n hb hx) (I.base.free b o e n hx)
 ·obtain⟨sl,e1⟩:=I.base.slot b o e n hb hx;obtain⟨sl',e2⟩:=slot b _ (QR b o e) hb (Nq b o e hx) e1 (I.base.free b o e n hx);exact⟨sl',e2⟩
 ·obtain⟨o',e1⟩:=I.base.there b o e hx;exact free b o' (Nq b o e hx) e1 (I.base.free b o e n hx)
 ·obtain⟨o',e1⟩:=I.base.there b o e hx;exact there b o' (Nq b o e hx) e1
 ·obtain⟨m1,e1⟩:=I.base.ue b ps e;obtain⟨m2,e2⟩:=ue b _ e1;exact⟨m1++m2,by rw[e2,Array.append_assoc]⟩
 ·obtain⟨m,hn,hl⟩:=I.loc;refine⟨m,ns m hn,fun i x v e1 e2 e3=>?_⟩;obtain⟨u,r,l⟩:=hl i x v e1 e2 e3;refine⟨u,r,?_⟩;rcases l with l | ⟨k,c,e,z⟩
  ·exact .inl l
  ·exact .inr ⟨k,c,e,cellK x c e _ z⟩
 ·obtain⟨v,z⟩:=I.cell x c e;exact⟨v,cellK x c e v z⟩
 ·obtain⟨m,⟨o,_,_,ho,_⟩,_⟩:=I.loc;exact free _ o (fun z=>(hch _ z).2.1 rfl) ho I.free
 ·obtain⟨v,o,ho,hd⟩:=I.cell x c e;exact free c o (fun z=>(hch c z).2.2.1 x c e rfl) ho (I.iM x c e)
 ·obtain⟨e,n,ne,nf,d⟩:=I.pin p hp;have Mi:p.1∉ch:=fun z=>(hch p.1 z).2.2.2 p hp rfl;exact⟨keep p.1 p.2 ne nf Mi e n,free p.1 p.2 Mi e n,ne,nf,d⟩
theorem Inv.un {t':Nat} (I:Inv X pins σ H s) (u:Un X.fs [] H H' s.heap h') (hok:gr X.prog X.w H' h'):Inv X pins σ H' { s with heap:=h',toks:=t' }:=by
 obtain⟨m,⟨o,es,ep,ho,r⟩,_⟩:=id I.loc;obtain⟨sl,hL⟩:=u.any ho I.free (by simp)
 exact I.step (g':=s.gens) (d':=s.drawn) (ch:=[]) (fun _ z=>nomatch z) (fun b o _ hb _ e n=>u.keep b o e n hb (by simp)) (fun b o _ hb _ e n=>u.slot b o e n hb (by simp)) (fun b o _ e n=>u.free b o e n (by simp)) (fun b o _ e=>u.there b o e (by simp)) u.tups u.sI u.ue (fun m' hm=>by
  obtain⟨o',es',ep',ho',r'⟩:=hm;rw[ho] at ho'; cases ho'
  exact⟨_,es',ep',hL,r'⟩) hok I.bare
theorem Inv.call {g':Array GenState} {t':Nat} {d':Drawn} {ch:List Addr} (I:Inv X pins σ H s) (u:Un (frs X.stack) ch H H' s.heap h') (hok:gr X.prog X.w H' h') (hg:AllBare g')
  (hch:∀b∈ch,(b∈X.ex\/X.s₀.heap.objs.size<=b)/\b≠X.env.locals/\(∀x c,X.env.cells.lookup x=some c->c≠b)/\∀p∈X.pn++pins,p.1≠b) :
  Inv X pins σ H' { s with heap:=h',gens:=g',drawn:=d',toks:=t' }:=by
 obtain⟨m,⟨o,es,ep,ho,r⟩,_⟩:=id I.loc;obtain⟨sl,hL⟩:=u.any ho I.free fun z=>(hch _ z).2.1 rfl
 exact I.step (ch:=ch) hch (fun b o hL hb hc e n=>u.keep b o e n (fun z=>(jE.mp (I.vJ b z)).elim hL hb) hc) (fun b o _ _ hc e n=>u.any e n hc) (fun b o hc e n=>u.free b o e n hc) (fun b o hc e=>u.there b o e hc) u.tups u.sI u.ue (fun m' hm=>by
  obtain⟨o',es',ep',ho',r'⟩:=hm;rw[ho] at ho'; cases ho'
  exact⟨_,es',ep',hL,r'⟩) hok hg
theorem Inv.turned {t':Nat} {it:Addr} (I:Inv X pins σ H s) (k:∀b o,b≠it->s.heap.get? b=some o->h'.get? b=some o) (hn:H it=none) (hL:it≠X.env.locals)
  (h1:it∈X.ex\/X.s₀.heap.objs.size<=it) (h2:∀x c,X.env.cells.lookup x=some c->c≠it) (h3:∀p∈X.pn++pins,p.1≠it):Inv X pins σ H { s with heap:=h',toks:=t' }:=by
 have Mg:∀b u,H b=some u->b≠it:=fun b u e z=>by rw[z,hn] at e; cases e
 refine I.step (g':=s.gens) (d':=s.drawn) (ch:=[it]) (fun b hb=>?_) (fun b o _ _ hc e _=>k b o (fun z=>hc (by simp[z])) e) (fun b o _ _ hc e _=>⟨o.slots,k b o (fun z=>hc (by simp[z])) e⟩) (fun _ _ _ _ n=>n)
  (fun b o hc e=>⟨o,k b o (fun z=>hc (by simp[z])) e⟩) (fun _ _ e=>e) (fun _ _ _ e=>e) (fun b ps e=>⟨#[],by rw[e]; simp⟩) (fun m hm=>?_) (fun b u e=>?_) I.bare
 ·have e:b=it:=by simpa using hb
  subst e;exact⟨h1,hL,h2,h3⟩
 ·obtain⟨o,es,ep,ho,r⟩:=hm;exact⟨o,es,ep,k _ o (Ne.symm hL) ho,r⟩
 ·refine(I.hok b u e).stay (fun c v hc q=>k c v ?_ q) (fun _ q=>q) fun _ _ q=>q;rcases hc with z | z
  ·rw[z]; exact Mg b u e
  ·exact Mg c _ z
theorem Inv.tok (I:Inv X pins σ H s) (t:Nat):Inv X pins σ H { s with toks:=t }:=I.un (h':=s.heap) (t':=t) Un.refl I.hok
theorem Inv.kept {t':Nat} (I:Inv X pins σ H s) (k:∀b u,s.heap.get? b=some u->h'.get? b=some u):Inv X pins σ H { s with heap:=h',toks:=t' }:=I.un (Un.kept k) (I.hok.kept k)
theorem Inv.laid {a:Addr} {o:HO} {t':Nat} (I:Inv X pins σ H s) (k:∀b u,s.heap.get? b=some u->h'.get? b=some u) (hp:s.heap.objs.size<=a) (new:bD X.prog X.w (upd H a o) h' a o) :
  Inv X pins σ (upd H a o) { s with heap:=h',toks:=t' }:=I.un (Un.laid k hp (I.hok.fresh hp)) (I.hok.laid k hp new)
theorem Inv.write {x e:Addr} {o:HO} {t':Nat} (I:Inv X pins σ H s) (mu:MN (H x)) (he:e=x\/H e=some (.own x)) (k:∀b u,b≠e->s.heap.get? b=some u->h'.get? b=some u) (heo:∃u,h'.get? e=some u)
  (new:bD X.prog X.w (upd H x o) h' x o):Inv X pins σ (upd H x o) { s with heap:=h',toks:=t' }:=I.un (Un.write mu he k heo) (I.hok.write mu he k heo new)
theorem Inv.weak {σ':List (Option V)} (I:Inv X pins σ H s) (hl:σ'.length=σ.length) (w:∀(i:Nat) v,σ'[i]?=some (some v)->σ[i]?=some (some v)):Inv X pins σ' H s:=
 ⟨I.ok,I.os,I.bare,I.base,let ⟨m,hn,hl'⟩:=I.loc; ⟨m,hn,fun i x v e1 e2 e3=>hl' i x v e1 (w i v e2) e3⟩,I.cell,I.free,I.iM,I.pin,I.hok,hl.trans I.len⟩
theorem Inv.yp {HN:List (Addr×Obj)} (I:Inv X pins σ H s) (h:∀p∈HN,s.heap.get? p.1=some p.2/\H p.1=none/\p.1≠X.env.locals/\p.1∉X.fs/\∀v,p.2.data≠.cell v):Inv X HN σ H s:=
 ⟨I.ok,I.os,I.bare,I.base,I.loc,I.cell,I.free,I.iM,fun p hp=>(mJ.mp hp).elim (fun z=>I.pin p (FZ _ z)) (h p),I.hok,I.len⟩
theorem uI {N:List Str} (hN:N.Nodup) {i j:Nat} {x:Str} (a:N[i]?=some x) (b:N[j]?=some x):i=j:=by
 obtain⟨h1,e1⟩:=lL.mp a;obtain⟨h2,e2⟩:=lL.mp b;exact(List.getElem_inj hN).mp (e1.trans e2.symm)
theorem zr {M:Model} {A:Around} {E:Value->Shared->Prop} {i:Nat} {x:Str} {v:V} {u:Value} {Q:Unit->Shared->Prop} (I:Inv X pins σ H s) (hN:X.N.Nodup) (hi:X.N[i]?=some x) (hx:Loc X.env.scope x) (r:RelV v u)
  (h:∀s',Inv X pins (σ.set i (some v)) H s'->(∃a,Heap.SameBut a s.heap s'.heap/\(a=X.env.locals\/X.env.cells.lookup x=some a))->Q () s') (hf:X.fn x=true\/X.env.scope.names.lookup x=some .local:=by first | exact .inl rfl | exact .inr rfl | assumption):wpAny M A (storeName X.env x u) Q E s:=by
 obtain⟨m,hn,hl⟩:=id I.loc;have hcls:(X.env.scope.kind==.class || (X.env.scope.kind==.module&&X.env.locals != X.env.globals))=false:=by rw[I.ok.kind]; rfl
 have Ms:i<σ.length:=by rw[I.len]; exact(lL.mp hi).1
 have JX:=I.JX
 have tracked:∀{a:Addr} {h':Heap},(∃o,s.heap.get? a=some o/\H a=none)->Heap.SameBut a s.heap h'->gr X.prog X.w H h':=fun {a h'} ha hs b ob e=>by
  obtain⟨_,_,hfree⟩:=ha;refine(I.hok b ob e).stay (fun c w' hc q=>(hs.2 c ?_).trans q) (fun _ q=>q) fun _ _ q=>q;rintro rfl;rcases hc with rfl | hc
  ·rw[hfree] at e; cases e
  ·rw[hfree] at hc; cases hc
 rcases hx with hk | hk
 ·refine wpAny_storeName_local hk hn (fun h' hn' hs=>?_) hcls;obtain⟨oL,_,_,hoL,_⟩:=id hn;refine h _ ⟨I.ok,I.os,I.bare,⟨fun b o e n hb hx=>?_,fun b o e n hb hx=>?_,I.base.free,fun b o e hx=>?_,I.base.tups,I.base.sI,I.base.ue⟩,⟨_,hn',fun j y v' e1 e2 e3=>?_⟩,fun y c e=>?_,I.free,I.iM,fun p hp=>?_,tracked ⟨oL,hoL,I.free⟩ hs,by simpa using I.len⟩ ⟨_,hs,.inl rfl⟩
  ·exact(hs.2 b (eF (jF (gA e) I.ok.above))).trans (I.base.keep b o e n hb hx)
  ·obtain⟨sl,e1⟩:=I.base.slot b o e n hb hx;exact⟨sl,(hs.2 b (eF (jF (gA e) I.ok.above))).trans e1⟩
  ·obtain⟨o',e1⟩:=I.base.there b o e hx;exact⟨o',(hs.2 b (eF (jF (gA e) I.ok.above))).trans e1⟩
  ·by_cases hj:j=i
   ·subst hj;rw[hi] at e1; cases e1;rw[List.getElem?_set_self Ms] at e2;cases e2;exact⟨u,r,.inl ⟨hk,by simp⟩⟩
   ·rw[List.getElem?_set_ne (Ne.symm hj)] at e2;obtain⟨u',r',q⟩:=hl j y v' e1 e2 e3;refine⟨u',r',?_⟩;rcases q with⟨k,e⟩ | ⟨k,c,e,z⟩
    ·refine .inl ⟨k,?_⟩;have:y≠x:=fun e=>hj (uI hN e1 (e▸hi));simp[this,e]
    ·exact .inr ⟨k,c,e,z.sameBut hs (JX y c e)⟩
  ·obtain⟨w',z⟩:=I.cell y c e;exact⟨w',z.sameBut hs (JX y c e)⟩
  ·obtain⟨e,n,ne,nf,d⟩:=I.pin p hp;exact⟨(hs.2 p.1 ne).trans e,n,ne,nf,d⟩
 ·have hfn:X.fn x=true:=by
   rcases hf with z | z
   ·exact z
   ·rw[z] at hk; cases hk
  obtain⟨c,hc⟩:=I.ok.has x (.inl hk);obtain⟨w',z⟩:=I.cell x c hc;refine wpAny_storeName_cell I.ok.kind hk hc z (fun h' hc' hs=>?_);obtain⟨oc,hoc,Pg⟩:=id z;refine h { s with heap:=h' } ⟨I.ok,I.os,I.bare,⟨fun b o e n hb hx=>?_,fun b o e n hb hx=>?_,I.base.free,fun b o e hx=>?_,I.base.tups,I.base.sI,I.base.ue⟩,⟨m,hn.sameBut hs (Ne.symm (JX x c hc)),fun j y v' e1 e2 e3=>?_⟩,fun y c' e=>?_,I.free,I.iM,fun p hp=>?_,tracked ⟨oc,hoc,I.iM x c hc⟩ hs,by simpa using I.len⟩ ⟨c,hs,.inr hc⟩
  ·exact(hs.2 b (eF (jF (gA e) (I.ok.cab x c hfn hc)))).trans (I.base.keep b o e n hb hx)
  ·obtain⟨sl,e1⟩:=I.base.slot b o e n hb hx;exact⟨sl,(hs.2 b (eF (jF (gA e) (I.ok.cab x c hfn hc)))).trans e1⟩
  ·obtain⟨o',e1⟩:=I.base.there b o e hx;exact⟨o',(hs.2 b (eF (jF (gA e) (I.ok.cab x c hfn hc)))).trans e1⟩
  ·by_cases hj:j=i
   ·subst hj;rw[hi] at e1; cases e1;rw[List.getElem?_set_self Ms] at e2;cases e2;exact⟨u,r,.inr ⟨.inl hk,c,hc,hc'⟩⟩
   ·rw[List.getElem?_set_ne (Ne.symm hj)] at e2;obtain⟨u',r',q⟩:=hl j y v' e1 e2 e3;refine⟨u',r',?_⟩;rcases q with q | ⟨k,c',e,z'⟩
    ·exact .inl q
    ·refine .inr ⟨k,c',e,z'.sameBut hs ?_⟩;rintro rfl;exact hj (uI hN e1 (I.ok.inj _ _ _ e hc▸hi))
  ·by_cases hcc:c'=c
   ·subst hcc; exact⟨_,hc'⟩
   ·obtain⟨w2,z2⟩:=I.cell y c' e;exact⟨w2,z2.sameBut hs hcc⟩
  ·obtain⟨e,n,ne,nf,d⟩:=I.pin p hp;refine⟨(hs.2 p.1 ?_).trans e,n,ne,nf,d⟩;intro q;rw[q,hoc] at e;have q':oc=p.2:=Option.some.inj e;exact d w' (by rw[<- q']; exact Pg)
theorem jO {M:Model} {A:Around} {E:Value->Shared->Prop} {i:Nat} {x:Str} {v:V} {u:Value} {Q:Unit->Shared->Prop} (I:Inv X pins σ H s) (hN:X.N.Nodup) (hi:X.N[i]?=some x) (hx:Loc X.env.scope x) (r:RelV v u)
  (h:∀s',Inv X pins (σ.set i (some v)) H s'->Q () s') (hf:X.fn x=true\/X.env.scope.names.lookup x=some .local:=by first | exact .inl rfl | exact .inr rfl | assumption):wpAny M A (storeName X.env x u) Q E s:=
 zr I hN hi hx r (fun s' I' _=>h s' I') hf
theorem Inv.call' {s':Shared} {ch:List Addr} (I:Inv X pins σ H s) (ho:s'.os=s.os) (u:Un (frs X.stack) ch H H' s.heap s'.heap) (hok:gr X.prog X.w H' s'.heap) (hg:AllBare s'.gens)
  (hch:∀b∈ch,(b∈X.ex\/X.s₀.heap.objs.size<=b)/\b≠X.env.locals/\(∀x c,X.env.cells.lookup x=some c->c≠b)/\∀p∈X.pn++pins,p.1≠b):Inv X pins σ H' s':=by
 obtain⟨h',g',d',t',o'⟩:=s';have e:o'=s.os:=ho;subst e;exact I.call (g':=g') (t':=t') (d':=d') u hok hg hch
end
abbrev XK:=Value->Option Addr->Hp->Prop
abbrev St:=List (Option V)
abbrev VK:=V->Hp->Prop
abbrev TE:=St->Hp->VK->Prop
abbrev TT:=St->Hp->(Bool->Hp->Prop)->Prop
abbrev TA:=St->Hp->(List V->Hp->Prop)->Prop
structure Ends where
 nx:St->Hp->Prop
 rt:VK
 bk:St->Hp->Prop:=fun _ _=>False
 ct:St->Hp->Prop:=fun _ _=>False
abbrev TS:=Ends->St->Hp->Prop
def EP (X:Cx) (pins:List (Addr×Obj)) (σ:St) (Q:VK) (u:Value) (s':Shared):Prop:=∃v H',Inv X pins σ H' s'/\RelV v u/\Q v H'
def TP (X:Cx) (pins:List (Addr×Obj)) (σ:St) (Q:Bool->Hp->Prop) (b:Bool) (s':Shared):Prop:=∃H',Inv X pins σ H' s'/\Q b H'
def AP (X:Cx) (pins:List (Addr×Obj)) (σ:St) (Q:List V->Hp->Prop) (us:List Value) (s':Shared):Prop:=∃vs H',Inv X pins σ H' s'/\Vals vs us/\Q vs H'
def SP (X:Cx) (pins:List (Addr×Obj)) (D:Ends) (f:Flow) (s':Shared):Prop:=
 match f with
 | .next=>∃σ' H',Inv X pins σ' H' s'/\D.nx σ' H'
 | .brk=>∃σ' H',Inv X pins σ' H' s'/\D.bk σ' H'
 | .cont=>∃σ' H',Inv X pins σ' H' s'/\D.ct σ' H'
 | .ret u=>∃v σ' H',Inv X pins σ' H' s'/\RelV v u/\D.rt v H'
structure PE (X:Cx) (e:Expr) (t:TE):Prop where
 mk ::
 go :
 ∀(pins:List (Addr×Obj)) (s:Shared) (σ:St) (H:Hp) (Q:VK),Inv X pins σ H s->t σ H Q->wpAny (model X.prog X.w) X.A (eval e X.env) (EP X pins σ Q) X.xe s
instance {X:Cx} {e:Expr} {t:TE}:CoeFun (PE X e t) (fun _=>
 ∀(pins:List (Addr×Obj)) (s:Shared) (σ:St) (H:Hp) (Q:VK),Inv X pins σ H s->t σ H Q->wpAny (model X.prog X.w) X.A (eval e X.env) (EP X pins σ Q) X.xe s):=⟨PE.go⟩
structure PT (X:Cx) (e:Expr) (t:TT):Prop where
 mk ::
 go :
 ∀(pins:List (Addr×Obj)) (s:Shared) (σ:St) (H:Hp) (Q:Bool->Hp->Prop),Inv X pins σ H s->t σ H Q->wpAny (model X.prog X.w) X.A (isTrue e X.env (eval e X.env)) (TP X pins σ Q) X.xe s
instance {X:Cx} {e:Expr} {t:TT}:CoeFun (PT X e t) (fun _=>
 ∀(pins:List (Addr×Obj)) (s:Shared) (σ:St) (H:Hp) (Q:Bool->Hp->Prop),Inv X pins σ H s->t σ H Q->wpAny (model X.prog X.w) X.A (isTrue e X.env (eval e X.env)) (TP X pins σ Q) X.xe s):=⟨PT.go⟩
structure PW (X:Cx) (e:Expr) (t:TT):Prop where
 mk ::
 go :
 ∀(whole:Sem Value) (pins:List (Addr×Obj)) (s:Shared) (σ:St) (H:Hp) (Q:Bool->Hp->Prop),Inv X pins σ H s->t σ H Q->wpAny (model X.prog X.w) X.A (isTrue e X.env whole) (TP X pins σ Q) X.xe s
instance {X:Cx} {e:Expr} {t:TT}:CoeFun (PW X e t) (fun _=>
 ∀(whole:Sem Value) (pins:List (Addr×Obj)) (s:Shared) (σ:St) (H:Hp) (Q:Bool->Hp->Prop),Inv X pins σ H s->t σ H Q->wpAny (model X.prog X.w) X.A (isTrue e X.env whole) (TP X pins σ Q) X.xe s):=⟨PW.go⟩
theorem PW.pt {X:Cx} {e:Expr} {t:TT} (h:PW X e t):PT X e t:=.mk <| h _
structure PA (X:Cx) (es:List Expr) (t:TA):Prop where
 mk ::
 go :
 ∀(pos:Pos) (pins:List (Addr×Obj)) (s:Shared) (σ:St) (H:Hp) (Q:List V->Hp->Prop),Inv X pins σ H s->t σ H Q->wpAny (model X.prog X.w) X.A (spliced (backTo pos (starEach es X.env))) (AP X pins σ Q) X.xe s
instance {X:Cx} {es:List Expr} {t:TA}:CoeFun (PA X es t) (fun _=>
 ∀(pos:Pos) (pins:List (Addr×Obj)) (s:Shared) (σ:St) (H:Hp) (Q:List V->Hp->Prop),Inv X pins σ H s->t σ H Q->wpAny (model X.prog X.w) X.A (spliced (backTo pos (starEach es X.env))) (AP X pins σ Q) X.xe s):=⟨PA.go⟩
structure PS (X:Cx) (st:Stmt) (t:TS):Prop where
 mk ::
 go :
 ∀(pins:List (Addr×Obj)) (s:Shared) (σ:St) (H:Hp) (D:Ends),Inv X pins σ H s->t D σ H->wpAny (model X.prog X.w) X.A (exec st X.env) (SP X pins D) X.xe s
instance {X:Cx} {st:Stmt} {t:TS}:CoeFun (PS X st t) (fun _=>
 ∀(pins:List (Addr×Obj)) (s:Shared) (σ:St) (H:Hp) (D:Ends),Inv X pins σ H s->t D σ H->wpAny (model X.prog X.w) X.A (exec st X.env) (SP X pins D) X.xe s):=⟨PS.go⟩
structure yQ (X:Cx) (st:List Stmt) (t:TS):Prop where
 mk ::
 go :
 ∀(pins:List (Addr×Obj)) (s:Shared) (σ:St) (H:Hp) (D:Ends),Inv X pins σ H s->t D σ H->wpAny (model X.prog X.w) X.A (execs st X.env) (SP X pins D) X.xe s
instance {X:Cx} {st:List Stmt} {t:TS}:CoeFun (yQ X st t) (fun _=>
 ∀(pins:List (Addr×Obj)) (s:Shared) (σ:St) (H:Hp) (D:Ends),Inv X pins σ H s->t D σ H->wpAny (model X.prog X.w) X.A (execs st X.env) (SP X pins D) X.xe s):=⟨yQ.go⟩
theorem cu {α:Type} {t:Sem α} {Q Q':α->Shared->Prop} {M:Model} {A:Around} {E:Value->Shared->Prop} {s:Shared} (h:wpAny M A t Q E s) (hQ:∀a s,Q a s->Q' a s):wpAny M A t Q' E s:=pA h hQ fun _ _ x=>x
section
variable {X:Cx}
def kY (i:Nat):TE:=fun σ H Q=>match σ[i]? with
 | some (some v)=>Q v H
 | _=>False
theorem kY.ex {i:Nat} {σ:St} {H:Hp} {Q:VK} (h:kY i σ H Q):∃v,σ[i]?=some (some v)/\Q v H:=by
 unfold kY at h;split at h
 ·rename_i v e;exact⟨v,e,h⟩
 ·exact h.elim
def tC (v:V):TE:=fun _ H Q=>Q v H
theorem Jp {i:Nat} {x:Str} {pos:Pos} (hN:X.N[i]?=some x) (hv:Qg X.env.scope x) (hd:(x==("__debug__" : Str))=false:=by decide) (hcd:(x==("__classdict__" : Str))=false:=by decide):PE X (.Name x pos) (kY i):=by
 refine .mk ?_;intro pins s σ H Q I h;obtain⟨v,e,h⟩:=kY.ex h;obtain⟨m,hn,hl⟩:=I.loc;obtain⟨u,r,l⟩:=hl i x v hN e hv;have fin:EP X pins σ Q u s:=⟨v,H,I,r,h⟩;rcases l with⟨hk,hm⟩ | ⟨hk,c,hc,hcell⟩
 ·exact wpAny_Name (wpAny_loadName_local I.ok.kind hk hn hm fin) hd
 ·rcases hk with hk | hk
  ·exact wpAny_Name (wpAny_loadName_cell I.ok.kind hk hc hcell fin) hd
  ·exact wpAny_Name (wpAny_loadName_free I.ok.kind hk hc hcell fin hcd) hd
theorem ak {i j pos}:PE X (.Constant (.int i) j pos) (tC (.int i)):=.mk <| fun _ _ _ H _ I h=>wpAny_Constant_int ⟨.int i,H,I.tok _,⟨_,rfl⟩,h⟩
theorem cA {b j pos}:PE X (.Constant (.bool b) j pos) (tC (.bl b)):=.mk <| fun _ _ _ H _ I h=>Constant_bool ⟨.bl b,H,I,rfl,h⟩
theorem Jr {j pos}:PE X (.Constant .none j pos) (tC .non):=.mk <| fun _ _ _ H _ I h=>Constant_none ⟨.non,H,I,rfl,h⟩
theorem bO {x j pos}:PE X (.Constant (.str x) j pos) (tC (.str x)):=.mk <| fun _ _ _ H _ I h=>Calls.Constant_str ⟨.str x,H,I.tok _,⟨_,rfl⟩,h⟩
def Gl (X:Cx) (x:Str):Prop:=X.env.kindOf x=some .globalImplicit
theorem sE {E:Value->Shared->Prop} {pins:List (Addr×Obj)} {s:Shared} {σ:St} {H:Hp} {x:Str} {u:Value} {pos:Pos} {Q:Value->Shared->Prop} (I:Inv X pins σ H s) (hg:Gl X x) (hm:X.mg x=some u) (h:Q u s)
  (hd:(x==("__debug__" : Str))=false:=by decide):wpAny (model X.prog X.w) X.A (eval (.Name x pos) X.env) Q E s:=
 Calls.Name_function_global I.ok.kind hg (Calls.loadGlobal_global (by rw[I.ok.glob]; exact I.mod.glob.keeps I.bk) hm h) hd
theorem oH {E:Value->Shared->Prop} {pins:List (Addr×Obj)} {s:Shared} {σ:St} {H:Hp} {x:Str} {u:Value} {pos:Pos} {Q:Value->Shared->Prop} (I:Inv X pins σ H s) (hg:Gl X x) (hm:X.mg x=none) (hv:bootBuiltins x=some u) (h:Q u s)
  (hn:x ≠ "__name__" := by decide) (hd:(x==("__debug__" : Str))=false:=by decide):wpAny (model X.prog X.w) X.A (eval (.Name x pos) X.env) Q E s:=by
 obtain⟨mb,h1,h2⟩:=I.mod.blt;exact Calls.Name_function_global I.ok.kind hg (Calls.loadGlobal_builtin (by rw[I.ok.glob]; exact I.mod.glob.keeps I.bk) hm (by rw[I.ok.blt]; exact h1.keeps I.bk) ((h2 x hn).trans hv) h) hd
theorem cV {x:Str} {v:V} {u:Value} {pos:Pos} (hg:Gl X x) (hm:X.mg x=some u) (r:RelV v u) (hd:(x==("__debug__" : Str))=false:=by decide):PE X (.Name x pos) (tC v):=
 .mk <| fun _ _ _ H _ I h=>sE I hg hm ⟨v,H,I,r,h⟩ hd
theorem Gq {x:Str} {v:V} {u:Value} {pos:Pos} (hg:Gl X x) (hm:X.mg x=none) (hv:bootBuiltins x=some u) (r:RelV v u) (hn:x ≠ "__name__" := by decide) (hd:(x==("__debug__" : Str))=false:=by decide):PE X (.Name x pos) (tC v):=
 .mk <| fun _ _ _ H _ I h=>oH I hg hm hv ⟨v,H,I,r,h⟩ hn hd
variable {a b:Expr} {ta tb:TE} {pos:Pos}
def tB (t:TE):TT:=fun σ H Q=>t σ H fun x H1=>∃c,x=.bl c/\Q c H1
theorem bW {e:Expr} {t:TE} (h:PE X e t) (he:∀whole,isTrue e X.env whole=(do let v <- whole; standAt e.pos; holding [v] (truthy v)):=by intro _; rfl):PT X e (tB t):=by
 refine .mk ?_;intro pins s σ H Q I hw;refine isTrue_plain (cu (h pins s σ H _ I hw) fun v s1 ⟨x,H1,I1,r1,q1⟩=>?_) (he _);obtain⟨d,rfl,q⟩:=q1;cases r1;exact nQ ⟨H1,I1,q⟩
variable {tA M9:TT} {rest:List Expr}
def Le (t u:TT):TT:=fun σ H Q=>t σ H fun c H1=>if c=true then u σ H1 Q else Q false H1
def Qy (t u:TT):TT:=fun σ H Q=>t σ H fun c H1=>if c=true then Q true H1 else u σ H1 Q
def K8 (t:TT):TT:=fun σ H Q=>t σ H fun c H1=>Q (!c) H1
theorem Ge (ha:PT X a tA):PW X (.BoolOp .And [a] pos) tA:=by
 refine .mk ?_;intro wh pins s σ H Q I h;refine isTrue_and (cu (ha pins s σ H Q I h) fun c s1 e=>?_);cases c with
 | true=>exact isTrue_and_nil e
 | false=>exact e
theorem jG (ha:PT X a tA):PW X (.BoolOp .Or [a] pos) tA:=by
 refine .mk ?_;intro wh pins s σ H Q I h;refine isTrue_or (cu (ha pins s σ H Q I h) fun c s1 e=>?_);cases c with
 | false=>exact isTrue_or_nil e
 | true=>exact e
theorem CV (ha:PT X a tA) (hb:PW X (.BoolOp .And (b::rest) pos) M9):PW X (.BoolOp .And (a::b::rest) pos) (Le tA M9):=by
 refine .mk ?_;intro wh pins s σ H Q I h;refine isTrue_and (cu (ha pins s σ H _ I h) fun c s1 qx=>?_);obtain⟨H1,I1,q1⟩:=qx;cases c with
 | true=>exact hb wh pins s1 σ H1 Q I1 q1
 | false=>exact⟨H1,I1,q1⟩
theorem nR (ha:PT X a tA) (hb:PW X (.BoolOp .Or (b::rest) pos) M9):PW X (.BoolOp .Or (a::b::rest) pos) (Qy tA M9):=by
 refine .mk ?_;intro wh pins s σ H Q I h;refine isTrue_or (cu (ha pins s σ H _ I h) fun c s1 qx=>?_);obtain⟨H1,I1,q1⟩:=qx;cases c with
 | true=>exact⟨H1,I1,q1⟩
 | false=>exact hb wh pins s1 σ H1 Q I1 q1
theorem dR (ha:PT X a tA):PT X (.UnaryOp .Not a pos) (K8 tA):=by
 refine .mk ?_;intro pins s σ H Q I h;exact isTrue_not (ha pins s σ H (fun c H1=>Q (!c) H1) I h)
def HB (ta tb:TE):TE:=fun σ H Q=>ta σ H fun x H1=>∃c,x=.bl c/\if c=true then tb σ H1 Q else Q (.bl false) H1
def K7 (ta tb:TE):TE:=fun σ H Q=>ta σ H fun x H1=>∃c,x=.bl c/\if c=true then Q (.bl true) H1 else tb σ H1 Q
def Hv (ta:TE):TE:=fun σ H Q=>ta σ H fun x H1=>∃c,x=.bl c/\Q (.bl (!c)) H1
theorem eQ {op} {t:TE} (h:PE X a t):PE X (.BoolOp op [a] pos) t:=.mk <| fun pins s σ H Q I hw=>BoolOp_one (h pins s σ H Q I hw)
theorem bQ (ha:PE X a ta) (hb:PE X (.BoolOp .And (b::rest) pos) tb):PE X (.BoolOp .And (a::b::rest) pos) (HB ta tb):=by
 refine .mk ?_;intro pins s σ H Q I h;refine BoolOp_and (cu (ha pins s σ H _ I h) fun v s1 qx=>?_);obtain⟨x,H1,I1,r1,q1⟩:=qx;obtain⟨c,rfl,q1⟩:=q1;cases r1;refine nQ ?_;cases c with
 | true=>exact hb pins s1 σ H1 Q I1 q1
 | false=>exact⟨.bl false,H1,I1,rfl,q1⟩
theorem Lz (ha:PE X a ta) (hb:PE X (.BoolOp .Or (b::rest) pos) tb):PE X (.BoolOp .Or (a::b::rest) pos) (K7 ta tb):=by
 refine .mk ?_;intro pins s σ H Q I h;refine BoolOp_or (cu (ha pins s σ H _ I h) fun v s1 qx=>?_);obtain⟨x,H1,I1,r1,q1⟩:=qx;obtain⟨c,rfl,q1⟩:=q1;cases r1;refine nQ ?_;cases c with
 | false=>exact hb pins s1 σ H1 Q I1 q1
 | true=>exact⟨.bl true,H1,I1,rfl,q1⟩
theorem Jq (ha:PE X a ta):PE X (.UnaryOp .Not a pos) (Hv ta):=by
 refine .mk ?_;intro pins s σ H Q I h;refine UnaryOp_ (cu (ha pins s σ H _ I h) fun v s1 qx=>?_);obtain⟨x,H1,I1,r1,q1⟩:=qx;obtain⟨c,rfl,q1⟩:=q1;cases r1;exact not_of (nQ ⟨.bl (!c),H1,I1,rfl,q1⟩)
def Qz (t:TT) (ta tb:TE):TE:=fun σ H Q=>t σ H fun c H1=>if c=true then ta σ H1 Q else tb σ H1 Q
theorem cP {c:Expr} (hc:PT X c tA) (ha:PE X a ta) (hb:PE X b tb):PE X (.IfExp c a b pos) (Qz tA ta tb):=by
 refine .mk ?_;intro pins s σ H Q I h;refine wpAny_IfExp (cu (hc pins s σ H _ I h) fun d s1 qx=>?_);obtain⟨H1,I1,q1⟩:=qx;cases d with
 | true=>exact ha pins s1 σ H1 Q I1 q1
 | false=>exact hb pins s1 σ H1 Q I1 q1
end
def fJ (K:PySem.W.Frag) (H:Hp) (a:Addr) (xs:List V):Prop:=
 Rd H a (.lst xs) \/
  ∃(o:Obj) (its:Array Value) (n:Nat),K.lookup a=some o/\o.cls=.type "list" /\ o.dict=none/\o.data=.seq its n/\its.size<=sizeLine/\Vals xs its.toList
def fH (K:PySem.W.Frag) (H:Hp) (a:Addr) (xs:List V):Prop:=
 Rd H a (.tup xs) \/
  ∃(o:Obj) (its:Array Value) (n:Nat),K.lookup a=some o/\o.cls=.type "tuple" /\ o.data=.seq its n/\its.size<=sizeLine/\Vals xs its.toList
def Qe:Value->Option V
 | .none=>some .non
 | .bool b=>some (.bl b)
 | .int i _=>some (.int i)
 | .str x _=>some (.str x)
 | .bytes b _=>some (.Bs b)
 | .float b _=>some (.flt b)
 | .ref a=>some (.ref a)
 | .type n=>some (.ty n)
 | _=>none
theorem RelV.abs {x:V} {u:Value} (r:RelV x u):Qe u=some x:=by
 cases x with
 | non=>cases r; rfl
 | bl _=>cases r; rfl
 | int _=>obtain⟨t,rfl⟩:=r; rfl
 | str _=>obtain⟨t,rfl⟩:=r; rfl
 | Bs _=>obtain⟨t,rfl⟩:=r; rfl
 | flt _=>obtain⟨t,rfl⟩:=r; rfl
 | ref _=>cases r; rfl
 | ty _=>cases r; rfl
theorem RelV.inj {x y:V} {u:Value} (r:RelV x u) (q:RelV y u):x=y:=Option.some.inj (r.abs.symm.trans q.abs)
theorem Vals.inj:∀{xs ys:List V} {us:List Value},Vals xs us->Vals ys us->xs=ys
 | _,_,_,.nil,.nil=>rfl
 | _,_,_,.cons r t,.cons r' t'=>by rw[r.inj r',Vals.inj t t']
section
variable {X:Cx} {pins:List (Addr×Obj)} {σ:St} {H:Hp} {s:Shared} {a:Addr} {xs ys:List V}
theorem fJ.of {K:PySem.W.Frag} (h:H a=some (.lst xs)):fJ K H a xs:=.inl (.inl h)
theorem fH.of {K:PySem.W.Frag} (h:H a=some (.tup xs)):fH K H a xs:=.inl (.inl h)
theorem Inv.list (I:Inv X pins σ H s) (h:fJ X.K H a xs):∃its:List Value,Vals xs its/\PlainL s.heap a its.toArray/\xs.length<=sizeLine:=by
 rcases h with h | ⟨o,its,n,hk,hc,hd,hs,hz,r⟩
 ·obtain⟨z,its,n,r,e⟩:=h.ok I.hok;exact⟨its,r,⟨_,n,e,rfl,rfl,rfl⟩,z⟩
 ·refine⟨its.toList,r,⟨o,n,I.kW a o hk,hc,hd,by simpa using hs⟩,?_⟩
  have e:=r.length;simp only[Array.length_toList] at e;omega
theorem Inv.tuple (I:Inv X pins σ H s) (h:fH X.K H a xs):∃its:List Value,Vals xs its/\IsTup s.heap a its.toArray/\xs.length<=sizeLine:=by
 rcases h with h | ⟨o,its,n,hk,hc,hs,hz,r⟩
 ·obtain⟨z,its,r,p⟩:=h.ok I.hok;exact⟨its,r,p,z⟩
 ·refine⟨its.toList,r,⟨o,I.kW a o hk,hc,n,by simpa using hs⟩,?_⟩
  have e:=r.length;simp only[Array.length_toList] at e;omega
theorem Inv.uQ (I:Inv X pins σ H s) (h:fJ X.K H a xs) (h':fJ X.K H a ys):xs=ys:=by
 obtain⟨its,r,⟨o,n,e,_,_,d⟩,_⟩:=I.list h;obtain⟨its',r',⟨o',n',e',_,_,d'⟩,_⟩:=I.list h';rw[e] at e'; cases e';rw[d] at d';injection d' with d1 _
 have:its=its':=by simpa using lE Array.toList d1
 subst this;exact r.inj r'
theorem Inv.zm (I:Inv X pins σ H s) (h:fH X.K H a xs) (h':fH X.K H a ys):xs=ys:=by
 obtain⟨its,r,⟨o,e,_,n,d⟩,_⟩:=I.tuple h;obtain⟨its',r',⟨o',e',_,n',d'⟩,_⟩:=I.tuple h';rw[e] at e'; cases e';rw[d] at d';injection d' with d1 _
 have:its=its':=by simpa using lE Array.toList d1
 subst this;exact r.inj r'
end
abbrev Cx.wish (X:Cx) (E:Value->Shared->Prop):Cx:={ X with xe:=E }
abbrev Cx.Np (X:Cx):Cx:=X.wish fun _ _=>False
theorem Cx.Ok.wish {X:Cx} (ok:X.Ok) (E:Value->Shared->Prop):(X.wish E).Ok:=
 ⟨ok.mod,ok.kind,ok.glob,ok.blt,ok.above,ok.inj,ok.has,ok.cab,ok.hd,ok.frames,ok.Nf,ok.Pu,ok.bs,ok.Ex,ok.DK,ok.Eb,ok.mO,ok.JR⟩
theorem Cx.Ok.h_ {X:Cx} {E:Value->Shared->Prop} (ok:(X.wish E).Ok):X.Ok:=
 ⟨ok.mod,ok.kind,ok.glob,ok.blt,ok.above,ok.inj,ok.has,ok.cab,ok.hd,ok.frames,ok.Nf,ok.Pu,ok.bs,ok.Ex,ok.DK,ok.Eb,ok.mO,ok.JR⟩
section
variable {X:Cx} {pins:List (Addr×Obj)} {σ:St} {H:Hp} {s:Shared} {E:Value->Shared->Prop}
theorem Inv.wish (I:Inv X pins σ H s) (E:Value->Shared->Prop):Inv (X.wish E) pins σ H s:=⟨I.ok.wish E,I.os,I.bare,I.base,I.loc,I.cell,I.free,I.iM,I.pin,I.hok,I.len⟩
theorem Inv.h_ (I:Inv (X.wish E) pins σ H s):Inv X pins σ H s:=⟨I.ok.h_,I.os,I.bare,I.base,I.loc,I.cell,I.free,I.iM,I.pin,I.hok,I.len⟩
theorem SP.h_ {D:Ends} {f:Flow} {s':Shared} (h:SP (X.wish E) pins D f s'):SP X pins D f s':=by
 cases f with
 | next=>obtain⟨σ',H',I,q⟩:=h; exact⟨σ',H',I.h_,q⟩
 | brk=>obtain⟨σ',H',I,q⟩:=h; exact⟨σ',H',I.h_,q⟩
 | cont=>obtain⟨σ',H',I,q⟩:=h; exact⟨σ',H',I.h_,q⟩
 | ret u=>obtain⟨v,σ',H',I,r,q⟩:=h; exact⟨v,σ',H',I.h_,r,q⟩
theorem yQ.Np {st:List Stmt} {t:TS} (h:yQ X.Np st t):yQ X st t:=.mk <| fun pins s σ H D I hw=>
 pA (h pins s σ H D (I.wish _) hw) (fun _ _ q=>q.h_) fun _ _ z=>False.elim z
end
section
variable {X:Cx} {st:Stmt} {rest:List Stmt} {t u:TS} {e:Expr} {te:TE} {pos:Pos}
def Hw:TS:=fun D σ H=>D.nx σ H
def Fi (t u:TS):TS:=fun D σ H=>t { D with nx:=u D } σ H
theorem bw:yQ X [] Hw:=.mk <| fun _ _ σ H _ I h=>wpAny_execs_nil ⟨σ,H,I,h⟩
theorem au (h1:PS X st t) (h2:yQ X rest u):yQ X (st::rest) (Fi t u):=by
 refine .mk ?_;intro pins s σ H D I h;refine wpAny_execs_cons (cu (h1 pins s σ H { D with nx:=u D } I h) fun f s1 q=>?_)
 cases f with
 | next=>
  obtain⟨σ',H',I',q⟩:=q;exact h2 pins s1 σ' H' D I' q
 | ret v=>exact q
 | brk=>exact q
 | cont=>exact q
theorem aB (h1:PS X st t):yQ X [st] t:=by
 refine .mk ?_;intro pins s σ H D I h;refine wpAny_execs_cons (cu (h1 pins s σ H D I h) fun f s1 q=>?_);cases f with
 | next=>exact wpAny_execs_nil q
 | ret v=>exact q
 | brk=>exact q
 | cont=>exact q
theorem Inv.quiet {pins:List (Addr×Obj)} {σ:St} {H:Hp} {s:Shared} (I:Inv X pins σ H s):interactive X.env=false:=by simp[interactive,I.ok.kind]
def Hz (te:TE):TS:=fun D σ H=>te σ H fun _ H1=>D.nx σ H1
theorem rF (he:PE X e te) (hs:swapsWith e none pos.line X.env=pure false:=by rfl):PS X (.Expr e pos) (Hz te):=by
 refine .mk ?_;intro pins s σ H D I h;exact wpAny_Expr_any (cu (he pins s σ H _ I h) fun v s1 ⟨x,H1,I1,r1,q1⟩=>⟨σ,H1,I1,q1⟩) I.quiet hs
def K4 (te:TE):TS:=fun D σ H=>te σ H D.rt
theorem aM (he:PE X e te):PS X (.Return (some e) pos) (K4 te):=by
 refine .mk ?_;intro pins s σ H D I h;exact wpAny_Return_some (cu (he pins s σ H _ I h) fun v s1 ⟨x,H1,I1,r1,q1⟩=>⟨x,σ,H1,I1,r1,q1⟩)
def K3:TS:=fun D _ H=>D.rt .non H
def La (c:TT) (t u:TS):TS:=fun D σ H=>c σ H fun b H1=>if b=true then t D σ H1 else u D σ H1
theorem cO {c:Expr} {a b:List Stmt} {tc:TT} (hc:PT X c tc) (ha:yQ X a t) (hb:yQ X b u):PS X (.If c a b pos) (La tc t u):=by
 refine .mk ?_;intro pins s σ H D I h;refine wpAny_If (cu (hc pins s σ H _ I h) fun d s1 qx=>?_);obtain⟨H1,I1,q1⟩:=qx;cases d with
 | true=>exact ha pins s1 σ H1 D I1 q1
 | false=>exact hb pins s1 σ H1 D I1 q1
end
abbrev TG:=V->St->Hp->(St->Hp->Prop)->Prop
abbrev Es:=List V->St->Hp->(St->Hp->Prop)->Prop
structure PG (X:Cx) (target:Expr) (t:TG):Prop where
 mk ::
 go :
 ∀(pins:List (Addr×Obj)) (s:Shared) (σ:St) (H:Hp) (v:V) (u:Value) (Q:St->Hp->Prop),Inv X pins σ H s->RelV v u->t v σ H Q ->
  wpAny (model X.prog X.w) X.A (assign target X.env u) (fun _ s'=>∃σ' H',Inv X pins σ' H' s'/\Q σ' H') X.xe s
instance {X:Cx} {target:Expr} {t:TG}:CoeFun (PG X target t) (fun _=>
 ∀(pins:List (Addr×Obj)) (s:Shared) (σ:St) (H:Hp) (v:V) (u:Value) (Q:St->Hp->Prop),Inv X pins σ H s->RelV v u->t v σ H Q ->
  wpAny (model X.prog X.w) X.A (assign target X.env u) (fun _ s'=>∃σ' H',Inv X pins σ' H' s'/\Q σ' H') X.xe s):=⟨PG.go⟩
structure J8 (X:Cx) (ts:List Expr) (t:Es):Prop where
 mk ::
 go :
 ∀(pins:List (Addr×Obj)) (s:Shared) (σ:St) (H:Hp) (vs:List V) (us:List Value) (Q:St->Hp->Prop),Inv X pins σ H s->Vals vs us->t vs σ H Q ->
  wpAny (model X.prog X.w) X.A (assignInOrder ((assignEach ts X.env).map (·.2)) us) (fun _ s'=>∃σ' H',Inv X pins σ' H' s'/\Q σ' H') X.xe s
instance {X:Cx} {ts:List Expr} {t:Es}:CoeFun (J8 X ts t) (fun _=>
 ∀(pins:List (Addr×Obj)) (s:Shared) (σ:St) (H:Hp) (vs:List V) (us:List Value) (Q:St->Hp->Prop),Inv X pins σ H s->Vals vs us->t vs σ H Q ->
  wpAny (model X.prog X.w) X.A (assignInOrder ((assignEach ts X.env).map (·.2)) us) (fun _ s'=>∃σ' H',Inv X pins σ' H' s'/\Q σ' H') X.xe s):=⟨J8.go⟩
abbrev Er:=V->V->V->Hp->(Hp->Prop)->Prop
structure Hi (X:Cx) (t:Er):Prop where
 mk ::
 go :
 ∀(pins:List (Addr×Obj)) (s:Shared) (σ:St) (H:Hp) (o i v:V) (ov iv u:Value) (Q:Hp->Prop),Inv X pins σ H s->RelV o ov->RelV i iv->RelV v u->t o i v H Q ->
  wpAny (model X.prog X.w) X.A (setItem ov iv u) (fun _ s'=>∃H',Inv X pins σ H' s'/\Q H') X.xe s
instance {X:Cx} {t:Er}:CoeFun (Hi X t) (fun _=>
 ∀(pins:List (Addr×Obj)) (s:Shared) (σ:St) (H:Hp) (o i v:V) (ov iv u:Value) (Q:Hp->Prop),Inv X pins σ H s->RelV o ov->RelV i iv->RelV v u->t o i v H Q ->
  wpAny (model X.prog X.w) X.A (setItem ov iv u) (fun _ s'=>∃H',Inv X pins σ H' s'/\Q H') X.xe s):=⟨Hi.go⟩
abbrev Qh:=V->V->Hp->VK->Prop
section
variable {X:Cx} {pos:Pos}
def km (i:Nat):TG:=fun v σ H Q=>Q (σ.set i (some v)) H
theorem aV {i:Nat} {x:Str} (hN:X.N.Nodup) (hi:X.N[i]?=some x) (hx:Loc X.env.scope x) (hf:X.fn x=true\/X.env.scope.names.lookup x=some .local:=by first | exact .inl rfl | exact .inr rfl | assumption):PG X (.Name x pos) (km i):=by
 refine .mk ?_;intro pins s σ H v u Q I r h;exact wpAny_assign_Name (jO I hN hi hx r (fun s' I'=>⟨_,H,I',h⟩) hf)
def Ar:Es:=fun vs σ H Q=>match vs with
 | []=>Q σ H
 | _=>False
theorem Ar.ex {vs:List V} {σ:St} {H:Hp} {Q:St->Hp->Prop} (h:Ar vs σ H Q):vs=[]/\Q σ H:=by
 cases vs with
 | nil=>exact⟨rfl,h⟩
 | cons a b=>exact h.elim
def oM (t:TG) (u:Es):Es:=fun vs σ H Q=>match vs with
 | v::r=>t v σ H fun σ' H'=>u r σ' H' Q
 | []=>False
theorem oM.ex {t:TG} {u:Es} {vs:List V} {σ:St} {H:Hp} {Q:St->Hp->Prop} (h:oM t u vs σ H Q):∃v r,vs=v::r/\t v σ H fun σ' H'=>u r σ' H' Q:=by
 cases vs with
 | nil=>exact h.elim
 | cons a b=>exact⟨a,b,rfl,h⟩
theorem i_:J8 X [] Ar:=by
 refine .mk ?_;intro pins s σ H vs us Q I r h;obtain⟨e,h⟩:=Ar.ex h;subst e;cases r;exact assignInOrder_nil ⟨σ,H,I,h⟩
theorem aX {e:Expr} {es:List Expr} {t:TG} {u:Es} (h1:PG X e t) (h2:J8 X es u)
  (hs:(assignEach (e::es) X.env).map (·.2)=assign e X.env::(assignEach es X.env).map (·.2):=by rfl):J8 X (e::es) (oM t u):=by
 refine .mk ?_;intro pins s σ H vs us Q I r h;obtain⟨v,vr,e1,h⟩:=oM.ex h;subst e1;cases r with
 | cons r rr=>
  rw[hs];refine assignInOrder_cons (cu (h1 pins s σ H _ _ _ I r h) fun _ s1 qx=>?_);obtain⟨σ1,H1,I1,q1⟩:=qx;exact h2 pins s1 σ1 H1 _ _ Q I1 rr q1
def JQ (K:PySem.W.Frag) (n:Nat) (t:Es):TG:=fun v σ H Q=>∃a xs,v=.ref a/\fH K H a xs/\xs.length=n/\t xs σ H Q
theorem Jo {es:List Expr} {k:Nat} {t:Es} {n:Nat} (hc:X.calm=true) (h:J8 X es t)
  (hn:(assignEach es X.env).length=n:=by rfl) (hst:(assignEach es X.env).findIdx? (·.1)=none:=by rfl):PG X (.Tuple es k pos) (JQ X.K n t):=by
 refine .mk ?_;intro pins s σ H v u Q I r hw;obtain⟨a,xs,e1,hq,hl,hw⟩:=hw;subst e1;cases r;obtain⟨its,rv,ht,hz⟩:=I.tuple hq;refine assign_Tuple_tuple (I.ok.hd hc) ht (by simp[hn,<- hl,rv.length]) hst fun h' hx=>?_
 have I1:Inv X pins σ H { s with heap:=h' }:=I.kept (t':=s.toks) fun b o e=>hx b o (eF (gA e)) e
 exact h pins _ σ H xs _ Q I1 (by simpa using rv) hw
def Mv (to ti:TE) (t:Er):TG:=fun v σ H Q=>to σ H fun o H1=>ti σ H1 fun i H2=>t o i v H2 fun H3=>Q σ H3
theorem vX {o i:Expr} {to ti:TE} {t:Er} (ho:PE X o to) (hi:PE X i ti) (hs:Hi X t)
  (ha:∀v,assign (.Subscript o i pos) X.env v=(do
   let ov <- holding [v] (eval o X.env)
   let iv <- holding [v,ov] (eval i X.env)
   standAt pos
   holding [v,ov,iv] (setItem ov iv v)
   release [v,ov,iv] []):=by intro _; rfl):PG X (.Subscript o i pos) (Mv to ti t):=by
 refine .mk ?_;intro pins s σ H v u Q I r h;rw[ha];refine bJ (jX (cu (ho pins s σ H _ I h) fun ov s1 qx=>?_));obtain⟨x,H1,I1,r1,q1⟩:=qx;refine bJ (jX (cu (hi pins s1 σ H1 _ I1 q1) fun iv s2 qx=>?_));obtain⟨y,H2,I2,r2,q2⟩:=qx;refine bJ (wpAny_standAt (bJ (jX (cu (hs pins s2 σ H2 x y v ov iv u _ I2 r1 r2 r q2) fun _ s3 qx=>?_))));obtain⟨H3,I3,q3⟩:=qx;exact wpAny_release ⟨σ,H3,I3,q3⟩
def BV (te:TE) (g:TG):TS:=fun D σ H=>te σ H fun x H1=>g x σ H1 D.nx
theorem jH {tg e:Expr} {te:TE} {g:TG} (he:PE X e te) (hg:PG X tg g) (hs:swapsWithSole [tg] e pos.line X.env=pure false:=by rfl) (hw:swappedStores [tg] e X.env=pure none:=by rfl)
  (h1:(assignEach [tg] X.env).map (·.2)=[assign tg X.env]:=by rfl):PS X (.Assign [tg] e pos) (BV te g):=by
 refine .mk ?_;intro pins s σ H D I h;refine wpAny_Assign_stores (cu (he pins s σ H _ I h) fun v s1 ⟨x,H1,I1,r1,q1⟩=>?_) hs hw;rw[h1];exact cu (hg pins s1 σ H1 x v _ I1 r1 q1) fun _ s2 q=>q
theorem bc {i:Nat} {x:Str} {e:Expr} {te:TE} {pos':Pos} (hN:X.N.Nodup) (hi:X.N[i]?=some x) (hx:Loc X.env.scope x) (he:PE X e te) (hs:swapsWith e (some (.Name x pos')) pos.line X.env=pure false:=by rfl) (hf:X.fn x=true\/X.env.scope.names.lookup x=some .local:=by first | exact .inl rfl | exact .inr rfl | assumption) :
  PS X (.Assign [.Name x pos'] e pos) (BV te (km i)):=by
 refine .mk ?_;intro pins s σ H D I h;refine wpAny_Assign_Name (cu (he pins s σ H _ I h) fun v s1 ⟨y,H1,I1,r1,q1⟩=>?_) hs;exact jO I1 hN hi hx r1 (fun s2 I2=>⟨_,H1,I2,q1⟩) hf
def K6 (i j:Nat) (ta:TA):TS:=fun D σ H=>ta σ H fun vs H1=>∃v w,vs=[v,w]/\D.nx ((σ.set i (some v)).set j (some w)) H1
theorem rE {i j:Nat} {x y:Str} {a b:Expr} {ta:TA} {px py pt:Pos} {kt k2 Oz} (hc:X.calm=true) (hN:X.N.Nodup) (hi:X.N[i]?=some x) (hj:X.N[j]?=some y) (hij:i≠j)
  (hx:X.env.scope.names.lookup x=some .local) (hy:X.env.scope.names.lookup y=some .local) (ha:PA X [a,b] ta)
  (hw:swappedStores [.Tuple [.Name x px,.Name y py] kt pt] (.Tuple [a,b] k2 Oz) X.env=pure (some [x,y]))
  (hs:swapsWithSole [.Tuple [.Name x px,.Name y py] kt pt] (.Tuple [a,b] k2 Oz) pos.line X.env=pure false:=by rfl) :
  PS X (.Assign [.Tuple [.Name x px,.Name y py] kt pt] (.Tuple [a,b] k2 Oz) pos) (K6 i j ta):=by
 refine .mk ?_;intro pins s σ H D I h;rw[exec_Assign_arm];refine bJ (wpAny_standAt ?_);rw[hs];refine bJ (fG ?_);rw[bB (by decide)]
 refine bJ (Tuple_ (cu (ha _ pins s σ H _ I h) fun us s1 qx=>?_));obtain⟨vs,H1,I1,r1,q1⟩:=qx;obtain⟨v,w,e1,q1⟩:=q1;subst e1
 obtain⟨u1,u2,rfl,rv,Lk⟩:∃u1 u2,us=[u1,u2]/\RelV v u1/\RelV w u2:=by
  cases r1 with
  | cons p q=>
   cases q with
   | cons p' q'=>
    cases q';exact⟨_,_,rfl,p,p'⟩
 refine zN ?_ (by show 2<=sizeLine; decide)
 have I2:Inv X pins σ H1 { s1 with heap:=s1.heap.push { cls:=.type "tuple",data:=.seq [u1,u2].toArray } }:=I1.kept (t':=s1.toks) fun b o e=>gF _ e
 rw[hw];refine bJ (fG ?_);show wpAny (model X.prog X.w) X.A (do rule "assign.swapped-stores"; let items <- unpackItems (.ref s1.heap.objs.size) 2 none; assignInOrder [fun v=>bindName X.env y v,fun v=>bindName X.env x v] items.reverse; pure Flow.next) _ _ _
 refine bJ (wpAny_rule (bJ (unpackItems_tuple (items:=#[u1,u2]) (I.ok.hd hc) (IsTup.new s1.heap _) fun h' hx'=>?_)));have I3:=I2.kept (h':=h') (t':=s1.toks) fun b o e=>hx' b o (eF (gA e)) e;show wpAny _ _ (assignInOrder [fun v=>bindName X.env y v,fun v=>bindName X.env x v] [u2,u1] >>= fun _=>pure Flow.next) _ _ _;refine bJ (assignInOrder_cons (wpAny_bindName (jO I3 hN hj (.inl hy) Lk (fun s2 I4=>?_) (.inr hy))));refine assignInOrder_cons (wpAny_bindName (jO I4 hN hi (.inl hx) rv (fun s3 I5=>assignInOrder_nil (fG ?_)) (.inr hx)));rw[List.set_comm _ _ (Ne.symm hij)] at I5;exact⟨_,H1,I5,q1⟩
def Og (i:Nat) (te:TE) (ti:Qh):TS:=fun D σ H=>∃x,σ[i]?=some (some x)/\te σ H fun y H1=>ti x y H1 fun z H2=>D.nx (σ.set i (some z)) H2
def Ld (to ti te:TE) (Oc:V->V->Hp->VK->Prop) (Rw:Qh) (Ob:Er):TS:=fun D σ H=>to σ H fun o H1=>ti σ H1 fun i H2=>Oc o i H2 fun x H3=>te σ H3 fun y H4=>Rw x y H4 fun z H5=>Ob o i z H5 fun H6=>D.nx σ H6
def R3 (f:Int->Int->Int):Qh:=fun x y H Q=>∃i j,x=.int i/\y=.int j/\Q (.int (f i j)) H
end
section
variable {X:Cx} {pos:Pos}
end
structure It where
 go:Nat->Hp->Prop
 Fe:Nat->Hp->V->Hp->Prop
 stop:Nat->Hp->Prop
def iW (X:Cx) (pins:List (Addr×Obj)) (H:Hp) (b:Addr):Prop:=
 H b=none/\b≠X.env.locals/\b∉X.fs/\(b∈X.ex\/X.s₀.heap.objs.size<=b)/\(∀x c,X.env.cells.lookup x=some c->c≠b)/\∀p∈X.pn++pins,p.1≠b
theorem Inv.wQ {X:Cx} {pins:List (Addr×Obj)} {σ:St} {H H':Hp} {s:Shared} {b:Addr} (I:Inv X pins σ H s) (hb:s.heap.objs.size<=b) (hn:H' b=none):iW X pins H' b:=by
 refine⟨hn,Nat.ne_of_gt (jF I.lt hb),I.OJ hb,.inr (dC I.sz hb),fun x c e z=>?_,fun p hp z=>?_⟩
 ·obtain⟨v,q⟩:=I.cell x c e;exact absurd (jF q.lt (by rw[z]; exact hb)) (uw _)
 ·exact absurd (jF (gA (I.pin p hp).1) (by rw[z]; exact hb)) (uw _)
structure Turn (P:Program) (w:World) (K:PySem.W.Frag) (tg:Expr) (J:It) (fp:List Addr) (it:Addr) (tn:Nat->Heap->Prop):Prop where
 mem:it∈fp
 obj:∀i h,tn i h->∀b∈fp,∃o,h.get? b=some o/\∀v,o.data≠.cell v
 keep:∀i h h',tn i h->(∀b∈fp,∀o,h.get? b=some o->h'.get? b=some o)->tn i h'
 item:∀(X:Cx),X.prog=P->X.w=w->X.K=K->X.calm=true->∀(i:Nat) (pins:List (Addr×Obj)) (s:Shared) (σ:St) (H:Hp) (E:Value->Shared->Prop),Inv X pins σ H s->(∀b∈fp,iW X pins H b)->tn i s.heap->J.go i H ->
  wpAny (model P w) X.A (pyNext (.ref it)) (fun r s1=>∃u,r=some u /\
   wpAny (model P w) X.A (letOwnedTupleGo tg (.ref it) u) (fun _ s2=>∃x H',Inv X pins σ H' s2/\RelV x u/\J.Fe i H x H'/\tn (i+1) s2.heap/\∀b∈fp,H' b=none) E s1) E s
 done:∀(X:Cx),X.prog=P->X.w=w->X.K=K->X.calm=true->∀(i:Nat) (pins:List (Addr×Obj)) (s:Shared) (σ:St) (H:Hp) (E:Value->Shared->Prop),Inv X pins σ H s->(∀b∈fp,iW X pins H b)->tn i s.heap->J.stop i H ->
  wpAny (model P w) X.A (pyNext (.ref it)) (fun r s1=>r=none/\Inv X pins σ H s1) E s
 self:∀(A:Around) (i:Nat) (s:Shared) (Q:Value->Shared->Prop) (E:Value->Shared->Prop),tn i s.heap->Q (.ref it) s->wpAny (model P w) A (pyIter (.ref it)) Q E s
abbrev TI:=St->Hp->(It->Hp->Prop)->Prop
def PIE (X:Cx) (pins:List (Addr×Obj)) (σ:St) (tg:Expr) (R:It->Hp->Prop) (itv:Value) (s2:Shared):Prop:=
 ∃(it:Addr) (fp:List Addr) (tn:Nat->Heap->Prop) (J:It) (H':Hp),itv=.ref it/\Inv X pins σ H' s2/\Turn X.prog X.w X.K tg J fp it tn/\tn 0 s2.heap/\(∀b∈fp,iW X pins H' b)/\R J H'
structure PI (X:Cx) (tg iter:Expr) (wi:TI):Prop where
 mk ::
 go :
 ∀(pins:List (Addr×Obj)) (s:Shared) (σ:St) (H:Hp) (R:It->Hp->Prop),Inv X pins σ H s->wi σ H R ->
  wpAny (model X.prog X.w) X.A (eval iter X.env) (fun v s1=>wpAny (model X.prog X.w) X.A (pyIter v) (PIE X pins σ tg R) X.xe s1) X.xe s
instance {X:Cx} {tg iter:Expr} {wi:TI}:CoeFun (PI X tg iter wi) (fun _=>
 ∀(pins:List (Addr×Obj)) (s:Shared) (σ:St) (H:Hp) (R:It->Hp->Prop),Inv X pins σ H s->wi σ H R ->
  wpAny (model X.prog X.w) X.A (eval iter X.env) (fun v s1=>wpAny (model X.prog X.w) X.A (pyIter v) (PIE X pins σ tg R) X.xe s1) X.xe s):=⟨PI.go⟩
theorem Ea {M:Model} {A:Around} {E:Value->Shared->Prop} {s:Shared} {tg:Expr} {it:Addr} {u:Value} {o:Obj} {n:String} {vs:Array Value} {Q:Unit->Shared->Prop} (ho:s.heap.get? it=some o) (hc:o.cls=.type n) (hd:o.data=.fields vs)
  (hn:["enumerate","zip","dict_itemiterator","dict_reverseitemiterator","odict_iterator","itertools.zip_longest","itertools.pairwise"].contains n=false) (hQ:Q () s):wpAny M A (letOwnedTupleGo tg (.ref it) u) Q E s:=by
 unfold letOwnedTupleGo;cases tg <;> first
  | exact fG hQ
  | (cases u <;> first
    | exact fG hQ
    | (refine bJ (wpAny_load ho ?_)
       rw[hc,hd];show wpAny M A (if(["enumerate","zip","dict_itemiterator","dict_reverseitemiterator","odict_iterator","itertools.zip_longest","itertools.pairwise"].contains n&&vs[0]?==some (rawInt _))=true then _ else _) Q E s
       rw[bB (by intro h; rw[hn,Bool.false_and] at h; cases h)]
       exact fG hQ))
def Rk (K:PySem.W.Frag) (a:Addr):It:=
 ⟨fun i H=>∃xs x,fJ K H a xs/\xs[i]?=some x,fun i H x H'=>H'=H/\∀xs,fJ K H a xs->xs[i]?=some x,fun i H=>∃xs,fJ K H a xs/\xs.length<=i⟩
def M4 (K:PySem.W.Frag) (a:Addr):It:=
 ⟨fun i H=>∃xs x,fH K H a xs/\xs[i]?=some x,fun i H x H'=>H'=H/\∀xs,fH K H a xs->xs[i]?=some x,fun i H=>∃xs,fH K H a xs/\xs.length<=i⟩
def Bt (lo:Int) (n:Nat):It:=⟨fun i _=>i<n,fun i H x H'=>H'=H/\x=.int (lo+i),fun i _=>n<=i⟩
theorem zg {P:Program} {w:World} {K:PySem.W.Frag} {tg:Expr} (a it:Addr):Turn P w K tg (Rk K a) [it] it (fun i h=>h.IsListIter it a i) where
 mem:=by simp
 obj:=fun i h st b hb=>by
  have e:b=it:=by simpa using hb
  subst e;obtain⟨o,e,c,d⟩:=st;exact⟨o,e,fun v z=>by rw[d] at z; cases z⟩
 keep:=fun i h h' st k=>st.at fun o e=>k it (by simp) o e
 item:=by
  intro X hP hw hK hc i pins s σ H E I hf st hg;subst hP hw hK;obtain⟨xs,x,hq,hx⟩:=hg;obtain⟨its,rv,p,hz⟩:=I.list hq;obtain⟨u,hu,ru⟩:=rv.get hx;obtain⟨f0,f1,f2,f3,f4,f5⟩:=hf it (by simp)
  refine wpAny_pyNext_list_item st p.isList (x:=u) (by simpa using hu) fun h' st' sb=>?_
  have I1:Inv X pins σ H { s with heap:=h' }:=I.turned (t':=s.toks) (fun b o hb e=>(sb.2 b hb).trans e) f0 f1 f3 f4 f5
  obtain⟨o,e,c,d⟩:=id st';exact⟨u,rfl,Ea (s:={ s with heap:=h' }) e c d (by decide) ⟨x,H,I1,ru,⟨rfl,fun ys hy=>by rw[I.uQ hy hq]; exact hx⟩,st',fun b hb=>(hf b hb).1⟩⟩
 done:=by
  intro X hP hw hK hc i pins s σ H E I hf st hg;subst hP hw hK;obtain⟨xs,hq,hx⟩:=hg;obtain⟨its,rv,p,hz⟩:=I.list hq;obtain⟨f0,f1,f2,f3,f4,f5⟩:=hf it (by simp)
  have hl:=rv.length;exact wpAny_pyNext_list_end (I.ok.hd hc) st p.isList (by simp; omega) fun h' eb=>⟨rfl,I.turned (t':=s.toks) (fun b o hb e=>eb b o hb e) f0 f1 f3 f4 f5⟩
 self:=fun _ _ _ _ _ st h=>wpAny_pyIter_listiter st h
theorem vB {P:Program} {w:World} {K:PySem.W.Frag} {tg:Expr} (a it:Addr):Turn P w K tg (M4 K a) [it] it (fun i h=>h.IsTupleIter it a i) where
 mem:=by simp
 obj:=fun i h st b hb=>by
  have e:b=it:=by simpa using hb
  subst e;obtain⟨o,e,c,d⟩:=st;exact⟨o,e,fun v z=>by rw[d] at z; cases z⟩
 keep:=fun i h h' st k=>st.at fun o e=>k it (by simp) o e
 item:=by
  intro X hP hw hK hc i pins s σ H E I hf st hg;subst hP hw hK;obtain⟨xs,x,hq,hx⟩:=hg;obtain⟨its,rv,p,hz⟩:=I.tuple hq;obtain⟨u,hu,ru⟩:=rv.get hx;obtain⟨f0,f1,f2,f3,f4,f5⟩:=hf it (by simp)
  refine wpAny_pyNext_tuple_item st (show s.heap.IsTuple a its.toArray from p) (x:=u) (by simpa using hu) fun h' st' sb=>?_
  have I1:Inv X pins σ H { s with heap:=h' }:=I.turned (t':=s.toks) (fun b o hb e=>(sb.2 b hb).trans e) f0 f1 f3 f4 f5
  obtain⟨o,e,c,d⟩:=id st';exact⟨u,rfl,Ea (s:={ s with heap:=h' }) e c d (by decide) ⟨x,H,I1,ru,⟨rfl,fun ys hy=>by rw[I.zm hy hq]; exact hx⟩,st',fun b hb=>(hf b hb).1⟩⟩
 done:=by
  intro X hP hw hK hc i pins s σ H E I hf st hg;subst hP hw hK;obtain⟨xs,hq,hx⟩:=hg;obtain⟨its,rv,p,hz⟩:=I.tuple hq;obtain⟨f0,f1,f2,f3,f4,f5⟩:=hf it (by simp)
  have hl:=rv.length;exact wpAny_pyNext_tuple_end (I.ok.hd hc) st (show s.heap.IsTuple a its.toArray from p) (by simp; omega) fun h' eb=>⟨rfl,I.turned (t':=s.toks) (fun b o hb e=>eb b o hb e) f0 f1 f3 f4 f5⟩
 self:=fun _ _ _ _ _ st h=>wpAny_pyIter_tupleiter st h
theorem vC {P:Program} {w:World} {K:PySem.W.Frag} {tg:Expr} (it:Addr) (lo:Int) (n:Nat):Turn P w K tg (Bt lo n) [it] it (fun i h=>IsRangeIter h it (lo+(i:Nat)*1) ((n:Int)-(i:Nat)) 1) where
 mem:=by simp
 obj:=fun i h st b hb=>by
  have e:b=it:=by simpa using hb
  subst e
  exact⟨_,st,fun v z=>by
   have z':Data.fields _=Data.cell v:=z
   cases z'⟩
 keep:=fun i h h' st k=>k it (by simp) _ st
 item:=by
  intro X hP hw hK hc i pins s σ H E I hf st hg;subst hP hw hK;obtain⟨f0,f1,f2,f3,f4,f5⟩:=hf it (by simp)
  have W:=Walks.range (prog:=X.prog) (w:=X.w) (I.ok.hd hc) it lo 1 n;refine W.item i s _ _ hg st fun v h' tk hv st' kk=>?_;obtain⟨t,rfl⟩:=hv;have I1:Inv X pins σ H { s with heap:=h',toks:=tk }:=I.turned (fun b o hb e=>kk b o (by simpa using hb) e) f0 f1 f3 f4 f5
  refine⟨_,rfl,Ea (s:={ s with heap:=h',toks:=tk }) (n:="range_iterator") st' rfl rfl (by decide) ⟨.int (lo+i),H,I1,⟨t,?_⟩,⟨rfl,rfl⟩,st',fun b hb=>(hf b hb).1⟩⟩
  rw[Int.mul_one]
 done:=by
  intro X hP hw hK hc i pins s σ H E I hf st hg;subst hP hw hK;obtain⟨f0,f1,f2,f3,f4,f5⟩:=hf it (by simp)
  exact wpAny_pyNext_range_end (I.ok.hd hc) st (by have:n<=i:=hg; omega) fun h' eb=>⟨rfl,I.turned (t':=s.toks) (fun b o hb e=>eb b o hb e) f0 f1 f3 f4 f5⟩
 self:=fun _ _ _ _ _ st h=>wpAny_pyIter_rangeiter st h
section
variable {X:Cx} {tg:Expr}
def DX (K:PySem.W.Frag) (tl:TE):TI:=fun σ H R=>tl σ H fun x H1=>∃a,x=.ref a/\(∃xs,fJ K H1 a xs)/\R (Rk K a) H1
def JP (K:PySem.W.Frag) (tl:TE):TI:=fun σ H R=>tl σ H fun x H1=>∃a,x=.ref a/\(∃xs,fH K H1 a xs)/\R (M4 K a) H1
theorem Gm {l:Expr} {tl:TE} (hl:PE X l tl):PI X tg l (DX X.K tl):=by
 refine .mk ?_;intro pins s σ H R I h;refine cu (hl pins s σ H _ I h) fun v s1 qx=>?_;obtain⟨x,H1,I1,r1,q1⟩:=qx;obtain⟨a,e,⟨xs,hq⟩,q⟩:=q1;subst e;cases r1;obtain⟨its,rv,p,hz⟩:=I1.list hq;refine CQ p.isList ?_;refine⟨s1.heap.objs.size,[s1.heap.objs.size],_,_,H1,rfl,I1.kept (t':=s1.toks) fun b o e=>gF _ e,zg a _,⟨_,gW _ rfl,rfl,rfl⟩,fun b hb=>?_,q⟩;have e:b=s1.heap.objs.size:=by simpa using hb
 subst e;exact I1.wQ (a_ _) (I1.hok.fresh (a_ _))
theorem Jm {l:Expr} {tl:TE} (hl:PE X l tl):PI X tg l (JP X.K tl):=by
 refine .mk ?_;intro pins s σ H R I h;refine cu (hl pins s σ H _ I h) fun v s1 qx=>?_;obtain⟨x,H1,I1,r1,q1⟩:=qx;obtain⟨a,e,⟨xs,hq⟩,q⟩:=q1;subst e;cases r1;obtain⟨its,rv,p,hz⟩:=I1.tuple hq;refine wpAny_pyIter_tuple (show s1.heap.IsTuple a its.toArray from p) ?_;refine⟨s1.heap.objs.size,[s1.heap.objs.size],_,_,H1,rfl,I1.kept (t':=s1.toks) fun b o e=>gF _ e,vB a _,⟨_,gW _ rfl,rfl,rfl⟩,fun b hb=>?_,q⟩;have e:b=s1.heap.objs.size:=by simpa using hb
 subst e;exact I1.wQ (a_ _) (I1.hok.fresh (a_ _))
theorem Cr {pins:List (Addr×Obj)} {σ:St} {H:Hp} {s:Shared} {R:It->Hp->Prop} {E:Value->Shared->Prop} {lo hi:Int} {t u v:Tok} {tk:Nat} (I:Inv X pins σ H s) (h1:-(2 ^ 62)<=lo) (h2:lo<2 ^ 62) (h3:-(2 ^ 62)<=hi) (h4:hi<2 ^ 62)
  (q:R (Bt lo (hi-lo).toNat) H):wpAny (model X.prog X.w) X.A (pyIter (.ref s.heap.objs.size)) (PIE X pins σ tg R) E { s with heap:=s.heap.push { cls:=.type "range",data:=.fields #[.int lo t,.int hi u,.int 1 v] },toks:=tk }:=by
 refine wpAny_pyIter_range (IsRange.new ..) (small_one h1 h2 h3 h4) ?_;have I1:Inv X pins σ H { s with heap:=s.heap.push { cls:=.type "range",data:=.fields #[.int lo t,.int hi u,.int 1 v] },toks:=tk }:=I.kept fun b o e=>gF _ e
 refine⟨(s.heap.push { cls:=.type "range",data:=.fields #[.int lo t,.int hi u,.int 1 v] }).objs.size,[(s.heap.push { cls:=.type "range",data:=.fields #[.int lo t,.int hi u,.int 1 v] }).objs.size],_,_,H,rfl,
  I1.kept (t':=tk) fun b o e=>gF _ e,vC _ lo (hi-lo).toNat,?_,fun b hb=>?_,q⟩
 ·have e1:lo+((0:Nat):Int)*1=lo:=by simp
  have e2:(((hi-lo).toNat:Nat):Int)-((0:Nat):Int)=Builtin.Range.rangeSize lo hi 1:=by rw[rangeSize_one]; split <;> omega
  show IsRangeIter _ _ (lo+((0:Nat):Int)*1) ((((hi-lo).toNat:Nat):Int)-((0:Nat):Int)) 1;rw[e1,e2];exact gW _ rfl
 ·have e:b=(s.heap.push { cls:=.type "range",data:=.fields #[.int lo t,.int hi u,.int 1 v] }).objs.size:=by simpa using hb
  subst e;exact I1.wQ (a_ _) (I1.hok.fresh (a_ _))
def uR (ta:TA):TI:=fun σ H R=>ta σ H fun vs H1=>∃j:Int,vs=[.int j]/\-(2 ^ 62)<=j/\j<2 ^ 62/\R (Bt 0 j.toNat) H1
theorem dz {a:Expr} {ta:TA} {p pos:Pos} (hg:Gl X "range") (hm:X.mg "range" = none) (ha:PA X [a] ta) (hs:starEach [a] X.env=[(false,eval a X.env)]:=by rfl):PI X tg (.Call (.Name "range" p) [a] [] pos) (uR ta):=by
 refine .mk ?_;intro pins s σ H R I h;refine Call_ (oH I hg hm boot_range (PyProof.Rows.callWith_type1 (cu (ha pos pins s σ H _ I h) fun us s1 ⟨vs,H1,I1,r1,q1⟩=>?_) hs rfl));obtain⟨j,e,q1,q2,q⟩:=q1;subst e;cases r1 with
 | cons r rr=>
  cases rr;obtain⟨t,rfl⟩:=r;exact call_range_1 (Cr I1 (by omega) (by omega) q1 q2 (by simpa using q))
def Fl (wi:TI) (g:TG) (tb:TS):TS:=fun D σ H=>wi σ H fun J H1=>∃W:Nat->Nat->St->Hp->Prop,(∃m,W 0 m σ H1)/\∀i m σ H,W i m σ H ->
 (J.stop i H/\D.nx σ H)\/(J.go i H/\∃N:St->Hp->Prop,(∀σ' H',N σ' H'->∃m',m'<m/\W (i+1) m' σ' H')/\∀x H',J.Fe i H x H'->g x σ H' fun σ2 H2=>tb { D with nx:=N,ct:=N,bk:=D.nx } σ2 H2)
def rH (fp:List Addr) (h:Heap):List (Addr×Obj):=fp.filterMap fun b=>(h.get? b).map fun o=>(b,o)
theorem dW {fp:List Addr} {h:Heap} {b:Addr} {o:Obj} (hb:b∈fp) (e:h.get? b=some o):(b,o)∈rH fp h:=List.mem_filterMap.mpr ⟨b,hb,by rw[e]; rfl⟩
theorem z8 {fp:List Addr} {h:Heap} {p:Addr×Obj} (hp:p∈rH fp h):p.1∈fp/\h.get? p.1=some p.2:=by
 obtain⟨b,hb,e⟩:=List.mem_filterMap.mp hp;cases q:h.get? b with
 | none=>rw[q] at e; cases e
 | some o=>
  rw[q] at e;have e':(b,o)=p:=Option.some.inj e;subst e';exact⟨hb,q⟩
theorem Inv.pinned {pins:List (Addr×Obj)} {σ:St} {H:Hp} {s:Shared} {fp:List Addr} (I:Inv X pins σ H s) (hf:∀b∈fp,iW X pins H b) (ho:∀b∈fp,∃o,s.heap.get? b=some o/\∀v,o.data≠.cell v):Inv X (pins++rH fp s.heap) σ H s:=
 I.yp fun p hp=>(mJ.mp hp).elim (fun z=>I.pin p (jl _ z)) fun z=>by
  obtain⟨hb,e⟩:=z8 z;obtain⟨f0,f1,f2,_⟩:=hf p.1 hb;obtain⟨o,e',d⟩:=ho p.1 hb;rw[e] at e'; cases e';exact⟨e,f0,f1,f2,d⟩
theorem Inv.ie {pins pl:List (Addr×Obj)} {σ:St} {H:Hp} {s:Shared} (I:Inv X (pins++pl) σ H s):Inv X pins σ H s:=I.yp fun p hp=>I.pin p (jl _ (FZ _ hp))
theorem lM {iter:Expr} {body:List Stmt} {wi:TI} {g:TG} {tb:TS} {pos:Pos} (hp:PassesOwn (model X.prog X.w) X.A X.env X.xe) (hc:X.calm=true) (hi:PI X tg iter wi) (hg:PG X tg g) (hb:yQ X body tb)
  (hs:∀x,foldedSetIterable iter X.env x=pure x:=by intro _; rfl):PS X (.For tg iter body [] pos) (Fl wi g tb):=by
 refine .mk ?_;intro pins s σ H D I h;refine wpAny_For (cu (hi pins s σ H _ I h) fun v s1 h1=>cu h1 fun itv s2 h2=>?_) hs;obtain⟨it,fp,tn,J,H2,e,I2,T,st2,f2,W,⟨m0,w0⟩,turn⟩:=h2;subst e;have stat:∀{H':Hp},(∀b∈fp,H' b=none)->∀b∈fp,iW X pins H' b:=fun hn b hb=>⟨hn b hb,(f2 b hb).2⟩;refine codeAny_forLoop_any (fun n s'=>∃i σ' H',Inv X pins σ' H' s'/\tn i s'.heap/\(∀b∈fp,H' b=none)/\W i n σ' H') ?_ m0 ⟨0,σ,H2,I2,st2,fun b hb=>(f2 b hb).1,w0⟩;rintro n s3 ⟨i,σ3,H3,I3,st3,Q9,w3⟩;rcases turn i n σ3 H3 w3 with⟨stop,qn⟩ | ⟨go,N,hN,step⟩
 ·refine CJ hp (cu (T.done X rfl rfl rfl hc i pins s3 σ3 H3 X.xe I3 (stat Q9) st3 stop) fun r s4 qx=>?_);obtain⟨hr,I4⟩:=qx;subst hr;exact wpAny_execs_nil ⟨σ3,H3,I4,qn⟩
 ·refine CJ hp (cu (T.item X rfl rfl rfl hc i pins s3 σ3 H3 X.xe I3 (stat Q9) st3 go) fun r s4 qx=>?_);obtain⟨u,hr,h4⟩:=qx;subst hr;refine CJ hp (cu h4 fun _ s5 qx=>?_);obtain⟨x,H5,I5,r5,y5,Kg,Nv⟩:=qx;have Vj:=I5.pinned (stat Nv) (T.obj _ _ Kg);refine CJ hp (cu (hg _ s5 σ3 H5 x u _ Vj r5 (step x H5 y5)) fun _ s6 qx=>?_);obtain⟨σ6,H6,I6,q6⟩:=qx;refine CJ hp (cu (hb _ s6 σ6 H6 _ I6 q6) fun f s7 q7=>?_)
  have again:∀{σ7:St} {H7:Hp},Inv X (pins++rH fp s5.heap) σ7 H7 s7->N σ7 H7->∃m,m<n/\∃i σ' H',Inv X pins σ' H' s7/\tn i s7.heap/\(∀b∈fp,H' b=none)/\W i m σ' H':=fun {σ7 H7} I7 n7=>by
   obtain⟨m',hm,w7⟩:=hN σ7 H7 n7;refine⟨m',hm,i+1,σ7,H7,I7.ie,T.keep _ _ _ Kg fun b hb o e=>(I7.pin (b,o) (jl _ (jl _ (dW hb e)))).1,fun b hb=>?_,w7⟩;obtain⟨o,e,d⟩:=T.obj _ _ Kg b hb;exact(I7.pin (b,o) (jl _ (jl _ (dW hb e)))).2.1
  cases f with
  | next=>obtain⟨σ7,H7,I7,n7⟩:=q7; exact again I7 n7
  | cont=>obtain⟨σ7,H7,I7,n7⟩:=q7; exact again I7 n7
  | brk=>obtain⟨σ7,H7,I7,q7⟩:=q7; exact⟨σ7,H7,I7.ie,q7⟩
  | ret v=>obtain⟨x7,σ7,H7,I7,r7,q7⟩:=q7; exact⟨x7,σ7,H7,I7.ie,r7,q7⟩
end
theorem qy {lo:Int} {n:Nat} {g:TG} {tb:TS} {D:Ends} {σ:St} {H:Hp} (Pv:Nat->St->Hp->Prop) (h0:Pv 0 σ H)
  (hs:∀i σ H,i<n->Pv i σ H->g (.int (lo+i)) σ H fun σ2 H2=>tb { D with nx:=Pv (i+1),ct:=Pv (i+1),bk:=D.nx } σ2 H2) (hd:∀σ H,Pv n σ H->D.nx σ H) :
  ∃W:Nat->Nat->St->Hp->Prop,(∃m,W 0 m σ H)/\∀i m σ H,W i m σ H ->
   ((Bt lo n).stop i H/\D.nx σ H)\/((Bt lo n).go i H/\∃N:St->Hp->Prop,(∀σ' H',N σ' H'->∃m',m'<m/\W (i+1) m' σ' H')/\∀x H',(Bt lo n).Fe i H x H'->g x σ H' fun σ2 H2=>tb { D with nx:=N,ct:=N,bk:=D.nx } σ2 H2):=by
 refine⟨fun i m σ H=>m=n-i/\i<=n/\Pv i σ H,⟨n,by simp,fW _,h0⟩,?_⟩
 rintro i m σ H ⟨rfl,hi,p⟩;by_cases hlt:i<n
 ·refine .inr ⟨hlt,Pv (i+1),fun σ' H' p'=>⟨n-(i+1),by omega,rfl,hlt,p'⟩,fun x H' y=>?_⟩
  obtain⟨e,y⟩:=y;subst e y;exact hs i σ _ hlt p
 ·have e:i=n:=by omega
  subst e;exact .inl ⟨a_ _,hd σ H p⟩
abbrev R2:=V->V->Hp->VK->Prop
structure jm (X:Cx) (f:Value->Value->Sem Value) (r:R2):Prop where
 mk ::
 go :
 ∀(pins:List (Addr×Obj)) (s:Shared) (σ:St) (H:Hp) (x y:V) (v u:Value) (Q:VK),Inv X pins σ H s->RelV x v->RelV y u->r x y H Q ->
  wpAny (model X.prog X.w) X.A (f v u) (EP X pins σ Q) X.xe s
instance {X:Cx} {f:Value->Value->Sem Value} {r:R2}:CoeFun (jm X f r) (fun _=>
 ∀(pins:List (Addr×Obj)) (s:Shared) (σ:St) (H:Hp) (x y:V) (v u:Value) (Q:VK),Inv X pins σ H s->RelV x v->RelV y u->r x y H Q ->
  wpAny (model X.prog X.w) X.A (f v u) (EP X pins σ Q) X.xe s):=⟨jm.go⟩
structure MK (X:Cx) (f:Value->Sem Value) (r:V->Hp->VK->Prop):Prop where
 mk ::
 go :
 ∀(pins:List (Addr×Obj)) (s:Shared) (σ:St) (H:Hp) (x:V) (v:Value) (Q:VK),Inv X pins σ H s->RelV x v->r x H Q ->
  wpAny (model X.prog X.w) X.A (f v) (EP X pins σ Q) X.xe s
instance {X:Cx} {f:Value->Sem Value} {r:V->Hp->VK->Prop}:CoeFun (MK X f r) (fun _=>
 ∀(pins:List (Addr×Obj)) (s:Shared) (σ:St) (H:Hp) (x:V) (v:Value) (Q:VK),Inv X pins σ H s->RelV x v->r x H Q ->
  wpAny (model X.prog X.w) X.A (f v) (EP X pins σ Q) X.xe s):=⟨MK.go⟩
structure cB (X:Cx) (f:Value) (r:List V->Hp->VK->Prop):Prop where
 mk ::
 go :
 ∀(pins:List (Addr×Obj)) (s:Shared) (σ:St) (H:Hp) (xs:List V) (us:List Value) (Q:VK),Inv X pins σ H s->Vals xs us->r xs H Q ->
  wpAny (model X.prog X.w) X.A (call f us) (EP X pins σ Q) X.xe s
instance {X:Cx} {f:Value} {r:List V->Hp->VK->Prop}:CoeFun (cB X f r) (fun _=>
 ∀(pins:List (Addr×Obj)) (s:Shared) (σ:St) (H:Hp) (xs:List V) (us:List Value) (Q:VK),Inv X pins σ H s->Vals xs us->r xs H Q ->
  wpAny (model X.prog X.w) X.A (call f us) (EP X pins σ Q) X.xe s):=⟨cB.go⟩
def Fj (r:R2) (ta tb:TE):TE:=fun σ H Q=>ta σ H fun x H1=>tb σ H1 fun y H2=>r x y H2 Q
def Qw (r:V->Hp->VK->Prop) (ta:TE):TE:=fun σ H Q=>ta σ H fun x H1=>r x H1 Q
def rI (C:Int->Int->Prop) (g:Int->Int->V):R2:=fun x y H Q=>∃i j,x=.int i/\y=.int j/\C i j/\Q (g i j) H
def FN (g:Int->Int->V):R2:=fun x y H Q=>∃i j,x=.int i/\y=.int j/\Q (g i j) H
def rU (g:Int->V):V->Hp->VK->Prop:=fun x H Q=>∃i,x=.int i/\Q (g i) H
section
variable {X:Cx} {a b c:Expr} {ta tb tc:TE} {pos:Pos}
theorem J3 (ha:PE X a ta) (hb:PE X b tb) {pins:List (Addr×Obj)} {s:Shared} {σ:St} {H:Hp} {R:V->V->Hp->Prop} (I:Inv X pins σ H s)
  (h:ta σ H fun x H1=>tb σ H1 fun y H2=>R x y H2) {Q:Value->Shared->Prop} {f:Value->Value->Sem Value}
  (hf:∀v u s2 x y H2,Inv X pins σ H2 s2->RelV x v->RelV y u->R x y H2->wpAny (model X.prog X.w) X.A (f v u) Q X.xe s2) :
  wpAny (model X.prog X.w) X.A (eval a X.env) (fun v s₁=>wpAny (model X.prog X.w) X.A (eval b X.env) (fun u s₂=>wpAny (model X.prog X.w) X.A (f v u) Q X.xe s₂) X.xe s₁) X.xe s:=by
 refine cu (ha pins s σ H _ I h) fun v s1 qx=>?_;obtain⟨x,H1,I1,r1,q1⟩:=qx;refine cu (hb pins s1 σ H1 _ I1 q1) fun u s2 qx=>?_;obtain⟨y,H2,I2,r2,q2⟩:=qx;exact hf v u s2 x y H2 I2 r1 r2 q2
theorem aN {op:Operator} {r:R2} (ho:jm X (binaryOp op) r) (ha:PE X a ta) (hb:PE X b tb):PE X (.BinOp a op b pos) (Fj r ta tb):=by
 refine .mk ?_;intro pins s σ H Q I h;exact wpAny_BinOp (J3 ha hb I h fun v u s2 x y H2 I2 rx ry q=>ho pins s2 σ H2 x y v u Q I2 rx ry q)
theorem HQ {op:UnaryOp} {r:V->Hp->VK->Prop} (ho:MK X (unaryOp op) r) (ha:PE X a ta):PE X (.UnaryOp op a pos) (Qw r ta):=by
 refine .mk ?_;intro pins s σ H Q I h;exact UnaryOp_ (cu (ha pins s σ H _ I h) fun v s1 ⟨x,H1,I1,r1,q1⟩=>ho pins s1 σ H1 x v Q I1 r1 q1)
theorem L_ {f:Value->Value->Sem Value} {C:Int->Int->Prop} {g:Int->Int->Int}
  (rule:∀(i j:Int) (t u:Tok) (s:Shared) (Q:Value->Shared->Prop) (E:Value->Shared->Prop),C i j->Q (.int (g i j) s.toks) { s with toks:=s.toks+1 }->wpAny (model X.prog X.w) X.A (f (.int i t) (.int j u)) Q E s) :
  jm X f (rI C fun i j=>.int (g i j)):=by
 refine .mk ?_;intro pins s σ H x y v u Q I rx ry h;obtain⟨i,j,rfl,rfl,hc,q⟩:=h;obtain⟨t,rfl⟩:=rx;obtain⟨t',rfl⟩:=ry;exact rule i j t t' s _ _ hc ⟨.int (g i j),H,I.tok _,⟨_,rfl⟩,q⟩
theorem LR {f:Value->Value->Sem Value} {g:Int->Int->Int}
  (rule:∀(i j:Int) (t u:Tok) (s:Shared) (Q:Value->Shared->Prop) (E:Value->Shared->Prop),Q (.int (g i j) s.toks) { s with toks:=s.toks+1 }->wpAny (model X.prog X.w) X.A (f (.int i t) (.int j u)) Q E s) :
  jm X f (FN fun i j=>.int (g i j)):=by
 refine .mk ?_;intro pins s σ H x y v u Q I rx ry h;obtain⟨i,j,rfl,rfl,q⟩:=h;obtain⟨t,rfl⟩:=rx;obtain⟨t',rfl⟩:=ry;exact rule i j t t' s _ _ ⟨.int (g i j),H,I.tok _,⟨_,rfl⟩,q⟩
theorem Gw {f:Value->Value->Sem Value} {g:Int->Int->Bool}
  (rule:∀(i j:Int) (t u:Tok) (s:Shared) (Q:Value->Shared->Prop) (E:Value->Shared->Prop),Q (.bool (g i j)) s->wpAny (model X.prog X.w) X.A (f (.int i t) (.int j u)) Q E s) :
  jm X f (FN fun i j=>.bl (g i j)):=by
 refine .mk ?_;intro pins s σ H x y v u Q I rx ry h;obtain⟨i,j,rfl,rfl,q⟩:=h;obtain⟨t,rfl⟩:=rx;obtain⟨t',rfl⟩:=ry;exact rule i j t t' s _ _ ⟨.bl (g i j),H,I,rfl,q⟩
def Qt (i j:Int):Prop:=0<j/\j<1073741824
def Qs (i j:Int):Prop:=0<=j/\j<=1000000/\i.natAbs<2 ^ 64
def Hl (i j:Int):Prop:=(-(2 ^ 64)<i/\i<2 ^ 64)\/(-(2 ^ 64)<j/\j<2 ^ 64)
theorem Hl.ok {i j:Int} (h:Hl i j):IntMulOk i j:=by
 rcases h with⟨h1,h2⟩ | ⟨h1,h2⟩
 ·exact .of_left (intBits_le_64 h1 h2)
 ·exact .of_right (intBits_le_64 h1 h2)
theorem bC:jm X (binaryOp .Add) (FN fun i j=>.int (i+j)):=LR fun _ _ _ _ _ _ _ q=>add_int q
theorem rK:jm X (binaryOp .Sub) (FN fun i j=>.int (i-j)):=LR fun _ _ _ _ _ _ _ q=>sub_int q
theorem iG:jm X (binaryOp .Mult) (rI Hl fun i j=>.int (i*j)):=L_ fun _ _ _ _ _ _ _ hc q=>mul_int q hc.ok
theorem Gu:jm X (binaryOp .FloorDiv) (rI Qt fun i j=>.int (i / j)):=L_ fun i j _ _ _ _ _ hc q=>by
 have h1:(0:Int)<j:=hc.1;have h2:j<1073741824:=hc.2;exact floordiv_int (by omega) (by rw[Int.fdiv_eq_ediv_of_nonneg i (by omega)]; exact q) (.inl (PyProof.noPylong_small (by omega)))
theorem fu:jm X (binaryOp .Mod) (rI (fun _ j=>0<j) fun i j=>.int (i % j)):=L_ fun i j _ _ _ _ _ hc q=>by
 have h1:(0:Int)<j:=hc;exact mod_int' (by omega) (by rw[Int.fmod_eq_emod_of_nonneg i (by omega)]; exact q)
theorem iD:jm X (binaryOp .Pow) (rI Qs fun i j=>.int (i ^ j.toNat)):=L_ fun _ _ _ _ _ _ _ hc q=>pow_int_small hc.1 hc.2.1 hc.2.2 q
theorem Rt {f:Value->Sem Value} {g:Int->Int}
  (rule:∀(i:Int) (t:Tok) (s:Shared) (Q:Value->Shared->Prop) (E:Value->Shared->Prop),Q (.int (g i) s.toks) { s with toks:=s.toks+1 }->wpAny (model X.prog X.w) X.A (f (.int i t)) Q E s) :
  MK X f (rU fun i=>.int (g i)):=by
 refine .mk ?_;intro pins s σ H x v Q I rx h;obtain⟨i,rfl,q⟩:=h;obtain⟨t,rfl⟩:=rx;exact rule i t s _ _ ⟨.int (g i),H,I.tok _,⟨_,rfl⟩,q⟩
theorem Bx:MK X (unaryOp .USub) (rU fun i=>.int (-i)):=Rt fun _ _ _ _ _ q=>neg_int q
end
def zy:V->V->Bool
 | .non,.non=>true | .non,.int _=>true | .int _,.non=>true | .non,.bl _=>true | .bl _,.non=>true | .non,.str _=>true | .str _,.non=>true
 | .int _,.int _=>true | .bl _,.bl _=>true | .str _,.str _=>true | .Bs _,.Bs _=>true
 | .int _,.str _=>true | .str _,.int _=>true | .bl _,.str _=>true | .str _,.bl _=>true
 | _,_=>false
def Jg:R2:=fun x y H Q=>zy x y=true/\Q (.bl (decide (x=y))) H
def Lq:R2:=fun x y H Q=>zy x y=true/\Q (.bl (!decide (x=y))) H
theorem yI {i j:Int}:decide (V.int i=V.int j)=(i==j):=by
 rw[zL];simp
theorem Ed {i j:Bool}:decide (V.bl i=V.bl j)=(i==j):=by
 rw[zL];simp
theorem yH {i j:Str}:decide (V.str i=V.str j)=(i==j):=by
 rw[zL];simp
theorem yJ {i j:Array UInt8}:decide (V.Bs i=V.Bs j)=(i.toList==j.toList):=by
 rw[zL];cases i;cases j;simp
section
variable {X:Cx} {a b c:Expr} {ta tb tc:TE} {pos:Pos}
theorem aU {pins:List (Addr×Obj)} {σ:St} {H:Hp} {s:Shared} {Q:VK} {k k':Bool} (I:Inv X pins σ H s) (q:Q (.bl k) H) (e:k=k'):EP X pins σ Q (.bool k') s:=by
 subst e;exact⟨.bl k,H,I,rfl,q⟩
theorem fQ:jm X (compareOp .Eq) Jg:=by
 refine .mk ?_;intro pins s σ H x y v u Q I rx ry h;obtain⟨hs,q⟩:=h;cases x with
 | non=>
  cases rx;cases y with
  | non=>cases ry; exact PySem.EqNone.eq_none_none (aU I q (by simp))
  | bl j=>cases ry; exact PySem.EqNone.eq_none_bool (aU I q (by simp))
  | int j=>obtain⟨t',rfl⟩:=ry; exact PySem.EqNone.eq_none_int (aU I q (by simp))
  | str j=>obtain⟨t',rfl⟩:=ry; exact PySem.EqNone.eq_none_str (aU I q (by simp))
  | _=>exact absurd (show false=true from hs) lJ
 | bl i=>
  cases rx;cases y with
  | non=>cases ry; exact PySem.EqNone.eq_bool_none (aU I q (by simp))
  | bl j=>cases ry; exact eq_bool (aU I q Ed)
  | str j=>obtain⟨t',rfl⟩:=ry; exact PySem.EqMixed.eq_bool_str (aU I q (by simp))
  | _=>exact absurd (show false=true from hs) lJ
 | int i=>
  obtain⟨t,rfl⟩:=rx;cases y with
  | non=>cases ry; exact PySem.EqNone.eq_int_none (aU I q (by simp))
  | int j=>obtain⟨t',rfl⟩:=ry; exact eq_int (aU I q yI)
  | str j=>obtain⟨t',rfl⟩:=ry; exact PySem.EqMixed.eq_int_str (aU I q (by simp))
  | _=>exact absurd (show false=true from hs) lJ
 | str i=>
  obtain⟨t,rfl⟩:=rx;cases y with
  | non=>cases ry; exact PySem.EqNone.eq_str_none (aU I q (by simp))
  | bl j=>cases ry; exact PySem.EqMixed.eq_str_bool (aU I q (by simp))
  | int j=>obtain⟨t',rfl⟩:=ry; exact PySem.EqMixed.eq_str_int (aU I q (by simp))
  | str j=>obtain⟨t',rfl⟩:=ry; exact eq_str (aU I q yH)
  | _=>exact absurd (show false=true from hs) lJ
 | Bs i=>
  obtain⟨t,rfl⟩:=rx;cases y with
  | Bs j=>obtain⟨t',rfl⟩:=ry; exact PySem.W.eq_bytes (aU I q yJ)
  | _=>exact absurd (show false=true from hs) lJ
 | _=>cases y <;> exact absurd (show false=true from hs) lJ
theorem HR:jm X (compareOp .NotEq) Lq:=by
 refine .mk ?_;intro pins s σ H x y v u Q I rx ry h;obtain⟨hs,q⟩:=h;cases x with
 | non=>
  cases rx;cases y with
  | non=>cases ry; exact PySem.EqNone.ne_none_none (aU I q (by simp))
  | bl j=>cases ry; exact PySem.EqNone.ne_none_bool (aU I q (by simp))
  | int j=>obtain⟨t',rfl⟩:=ry; exact PySem.EqNone.ne_none_int (aU I q (by simp))
  | str j=>obtain⟨t',rfl⟩:=ry; exact PySem.EqNone.ne_none_str (aU I q (by simp))
  | _=>exact absurd (show false=true from hs) lJ
 | bl i=>
  cases rx;cases y with
  | non=>cases ry; exact PySem.EqNone.ne_bool_none (aU I q (by simp))
  | bl j=>cases ry; exact ne_bool (aU I q (lE not Ed))
  | str j=>obtain⟨t',rfl⟩:=ry; exact PySem.EqMixed.ne_bool_str (aU I q (by simp))
  | _=>exact absurd (show false=true from hs) lJ
 | int i=>
  obtain⟨t,rfl⟩:=rx;cases y with
  | non=>cases ry; exact PySem.EqNone.ne_int_none (aU I q (by simp))
  | int j=>obtain⟨t',rfl⟩:=ry; exact ne_int (aU I q (lE not yI))
  | str j=>obtain⟨t',rfl⟩:=ry; exact PySem.EqMixed.ne_int_str (aU I q (by simp))
  | _=>exact absurd (show false=true from hs) lJ
 | str i=>
  obtain⟨t,rfl⟩:=rx;cases y with
  | non=>cases ry; exact PySem.EqNone.ne_str_none (aU I q (by simp))
  | bl j=>cases ry; exact PySem.EqMixed.ne_str_bool (aU I q (by simp))
  | int j=>obtain⟨t',rfl⟩:=ry; exact PySem.EqMixed.ne_str_int (aU I q (by simp))
  | str j=>obtain⟨t',rfl⟩:=ry; exact ne_str (aU I q (lE not yH))
  | _=>exact absurd (show false=true from hs) lJ
 | Bs i=>
  obtain⟨t,rfl⟩:=rx;cases y with
  | Bs j=>obtain⟨t',rfl⟩:=ry; exact PySem.W.ne_bytes (aU I q (lE not yJ))
  | _=>exact absurd (show false=true from hs) lJ
 | _=>cases y <;> exact absurd (show false=true from hs) lJ
theorem Dr:jm X (compareOp .Lt) (FN fun i j=>.bl (decide (i<j))):=Gw fun _ _ _ _ _ _ _ q=>lt_int q
theorem uE:jm X (compareOp .LtE) (FN fun i j=>.bl (decide (i<=j))):=Gw fun _ _ _ _ _ _ _ q=>le_int q
theorem yt:jm X (compareOp .Gt) (FN fun i j=>.bl (decide (j<i))):=Gw fun _ _ _ _ _ _ _ q=>gt_int q
theorem HS:jm X (compareOp .GtE) (FN fun i j=>.bl (decide (j<=i))):=Gw fun _ _ _ _ _ _ _ q=>ge_int q
theorem aZ (b:Expr) {op:CmpOp} (h:op≠.In:=by decide) (h2:op≠.NotIn:=by decide):behindInMarks op b=false:=by
 have e1:(op==CmpOp.In)=false:=by cases op <;> first | rfl | exact absurd rfl h
 have e2:(op==CmpOp.NotIn)=false:=by cases op <;> first | rfl | exact absurd rfl h2
 cases b <;> simp[behindInMarks,e1,e2]
theorem cM {op:CmpOp} {r:R2} (ho:jm X (compareOp op) r) (ha:PE X a ta) (hb:PE X b tb) (hm:behindInMarks op b=false):PE X (.Compare a [op] [b] pos) (Fj r ta tb):=by
 refine .mk ?_;intro pins s σ H Q I h;exact wpAny_Compare1 (J3 ha hb I h fun v u s2 x y H2 I2 rx ry q=>ho pins s2 σ H2 x y v u Q I2 rx ry q) hm
def BR (t:TE):TT:=fun σ H Q=>t σ H fun x H'=>∃k,x=.bl k/\Q k H'
theorem bz {op:CmpOp} {r:R2} (ho:jm X (compareOp op) r) (ha:PE X a ta) (hb:PE X b tb) (hm:behindInMarks op b=false):PT X (.Compare a [op] [b] pos) (BR (Fj r ta tb)):=by
 refine .mk ?_;intro pins s σ H Q I h
 refine wpAny_isTrue_Compare1 (cu (ha pins s σ H _ I h) fun v s1 ⟨x,H1,I1,r1,q1⟩=>cu (hb pins s1 σ H1 _ I1 q1) fun u s2 ⟨y,H2,I2,r2,q2⟩=>
  cu (ho pins s2 σ H2 x y v u _ I2 r1 r2 q2) fun c s3 ⟨z,H3,I3,r3,k,e,q3⟩=>?_) hm
 subst e;cases r3;exact nQ ⟨H3,I3,q3⟩
def vH (r r':R2) (ta tb tc:TE):TE:=fun σ H Q=>ta σ H fun x H1=>tb σ H1 fun y H2=>r x y H2 fun z H3=>∃k,z=.bl k /\
 (if k=true then tc σ H3 fun w' H4=>r' y w' H4 Q else Q (.bl false) H3)
theorem Dp {op op':CmpOp} {r r':R2} (ho:jm X (compareOp op) r) (ho':jm X (compareOp op') r') (ha:PE X a ta) (hb:PE X b tb) (hc:PE X c tc)
  (hm:lastMarks [op,op'] [b,c]=false:=by with_unfolding_all rfl):PE X (.Compare a [op,op'] [b,c] pos) (vH r r' ta tb tc):=by
 refine .mk ?_;intro pins s σ H Q I h
 refine Compare_chain (cu (ha pins s σ H _ I h) fun v s1 ⟨x,H1,I1,r1,q1⟩=>chain_link (cu (hb pins s1 σ H1 _ I1 q1) fun u s2 ⟨y,H2,I2,r2,q2⟩=>
  cu (ho pins s2 σ H2 x y v u _ I2 r1 r2 q2) fun d s3 ⟨z,H3,I3,r3,k,e,q3⟩=>?_)) hm
 subst e;cases r3;refine nQ ?_;cases k with
 | false=>exact ite_ff ⟨.bl false,H3,I3,rfl,q3⟩
 | true=>exact ite_tt (chain_last (cu (hc pins s3 σ H3 _ I3 q3) fun w' s4 ⟨z',H4,I4,r4,q4⟩=>ho' pins s4 σ H4 y z' u w' Q I4 r2 r4 q4))
theorem De {op op':CmpOp} {r r':R2} (ho:jm X (compareOp op) r) (ho':jm X (compareOp op') r') (ha:PE X a ta) (hb:PE X b tb) (hc:PE X c tc)
  (hm:lastMarks [op,op'] [b,c]=false:=by with_unfolding_all rfl):PT X (.Compare a [op,op'] [b,c] pos) (BR (vH r r' ta tb tc)):=by
 refine .mk ?_;intro pins s σ H Q I h
 refine isTrue_chain (cu (ha pins s σ H _ I h) fun v s1 ⟨x,H1,I1,r1,q1⟩=>test_link (cu (hb pins s1 σ H1 _ I1 q1) fun u s2 ⟨y,H2,I2,r2,q2⟩=>
  cu (ho pins s2 σ H2 x y v u _ I2 r1 r2 q2) fun d s3 ⟨z,H3,I3,r3,k,e,q3⟩=>?_)) hm
 subst e;cases r3;refine nQ ?_;cases k with
 | false=>
  obtain⟨k',e',q'⟩:=q3;cases e';exact ite_ff ⟨H3,I3,q'⟩
 | true=>
  refine ite_tt (test_last (cu (hc pins s3 σ H3 _ I3 q3) fun w' s4 ⟨z',H4,I4,r4,q4⟩=>cu (ho' pins s4 σ H4 y z' u w' _ I4 r2 r4 q4) fun d' s5 qx=>?_));obtain⟨z2,H5,I5,r5,k2,e2,q5⟩:=qx;subst e2;cases r5;exact nQ ⟨H5,I5,q5⟩
theorem su:(sizeLine:Nat)<2 ^ 63:=by rw[sizeLine_eq]; decide
theorem vals1 {x:V} {us:List Value} (r:Vals [x] us):∃u,us=[u]/\RelV x u:=by
 cases r with
 | cons r1 r2=>cases r2; exact⟨_,rfl,r1⟩
theorem vals2 {x y:V} {us:List Value} (r:Vals [x,y] us):∃u w',us=[u,w']/\RelV x u/\RelV y w':=by
 cases r with
 | cons r1 r2=>
  cases r2 with
  | cons r3 r4=>cases r4; exact⟨_,_,rfl,r1,r3⟩
theorem u0:cB X (.builtin "abs") (fun xs H Q=>∃i,xs=[.int i]/\Q (.int (if i<0 then -i else i)) H):=by
 refine .mk ?_;intro pins s σ H xs us Q I r h;obtain⟨i,rfl,q⟩:=h;obtain⟨u,rfl,t,rfl⟩:=vals1 r;exact call_abs_int fun u tk=>⟨.int (if i<0 then -i else i),H,I.tok _,⟨_,rfl⟩,q⟩
theorem qC (hc:X.calm=true):cB X (.builtin "max") (fun xs H Q=>∃i j,xs=[.int i,.int j]/\Q (.int (if j>i then j else i)) H):=by
 refine .mk ?_;intro pins s σ H xs us Q I r h;obtain⟨i,j,rfl,q⟩:=h;obtain⟨u,w',rfl,⟨t,rfl⟩,⟨t',rfl⟩⟩:=vals2 r;refine max_two_ints (I.ok.hd hc) fun h' tk k=>⟨_,H,I.kept k,?_,q⟩;by_cases hj:j>i
 ·rw[bj hj,bj hj]; exact⟨_,rfl⟩
 ·rw[bB hj,bB hj]; exact⟨_,rfl⟩
theorem A_ (hc:X.calm=true):cB X (.builtin "min") (fun xs H Q=>∃i j,xs=[.int i,.int j]/\Q (.int (if j<i then j else i)) H):=by
 refine .mk ?_;intro pins s σ H xs us Q I r h;obtain⟨i,j,rfl,q⟩:=h;obtain⟨u,w',rfl,⟨t,rfl⟩,⟨t',rfl⟩⟩:=vals2 r;refine min_two_ints (I.ok.hd hc) fun h' tk k=>⟨_,H,I.kept k,?_,q⟩;by_cases hj:j<i
 ·rw[bj hj,bj hj]; exact⟨_,rfl⟩
 ·rw[bB hj,bB hj]; exact⟨_,rfl⟩
end
structure J9 (h:Heap) (x dx C:Addr) (mA:Str->Option Value):Prop where
 obj:h.get? x=some (PySem.W.instObj C dx)
 ns:h.Ns1 dx mA
 ne:dx≠x
theorem Ab {h:Heap} {dx:Addr} {mA:Str->Option Value} (n:h.Ns1 dx mA):∃od,h.get? dx=some od/\∀name,PySem.W.lookIn name od=some (mA name):=by
 obtain⟨o,es,ep,ho,hd,hk,_,hm⟩:=n;refine⟨o,ho,fun name=>?_⟩;have e:=hm name;unfold nsFind findBy at e;rw[<- Array.find?_toList] at e;unfold PySem.W.lookIn;rw[hd];dsimp only;split
 ·rename_i y q;rw[q] at e;exact lE some e
 ·rename_i q;rw[q] at e
  have a:es.toList.any (·.refKey)=false:=by
   rw[List.any_eq_false];intro y hy;obtain⟨z,t,hkey⟩:=hk y (Array.mem_toList_iff.mp hy);simp[DictEntry.refKey,hkey]
  have a':¬es.toList.any (·.refKey)=true:=by rw[a]; exact lJ
  rw[bB a'];exact lE some e
theorem J9.look {h:Heap} {x dx C:Addr} {mA:Str->Option Value} (I:J9 h x dx C mA):∃od,PySem.W.InstAt h x (PySem.W.instObj C dx) C (some od)/\∀name,PySem.W.lookIn name od=some (mA name):=
 let ⟨od,ho,hl⟩:=Ab I.ns
 ⟨od,⟨I.obj,rfl,rfl,ho⟩,hl⟩
section
variable {prog:Program} {w:World} {A:Around} {E:Value->Shared->Prop} {s:Shared} {K:PySem.W.Frag} {x dx C f:Addr} {mA:Str->Option Value} {name:Str} {v:Value}
end
theorem Aq {v:V} {u:Value} (r:RelV v u):PySem.W.handedIn u=true:=by
 cases v with
 | non=>cases(show u=Value.none from r); rfl
 | bl b=>cases(show u=Value.bool b from r); rfl
 | int i=>obtain⟨t,e⟩:=(show ∃t,u=Value.int i t from r); cases e; rfl
 | str x=>obtain⟨t,e⟩:=(show ∃t,u=Value.str x t from r); cases e; rfl
 | Bs b=>obtain⟨t,e⟩:=(show ∃t,u=Value.bytes b t from r); cases e; rfl
 | flt b=>obtain⟨t,e⟩:=(show ∃t,u=Value.float b t from r); cases e; rfl
 | ref a=>cases(show u=Value.ref a from r); rfl
 | ty n=>cases(show u=Value.type n from r); rfl
section
variable {P:Program} {w:World} {H H':Hp} {h h':Heap} {a C dx:Addr} {fs fs':List (Str×V)}
theorem G4 (hok:gr P w H h) (e:H a=some (.ins C dx fs)):∃mA,J9 h a dx C mA/\(∀f,J7 (fs.lookup f) (mA f))/\PySem.Within mA (fs.map (·.1))/\fs.length<=1000/\H dx=some (.own a):=by
 obtain⟨d,z,ne,ob,mA,n,r,q⟩:=(show bD P w H h a (.ins C dx fs) from hok a _ e);exact⟨mA,⟨ob,n,ne⟩,r,q,z,d⟩
end
structure Qq (K:PySem.W.Frag) (C:Addr):Prop where
 pg:PySem.W.plainGet K C Str.empty=true
 hd:PySem.W.hasDictIn K C=true
 po:PySem.W.plainOver K C=true
 sa:PySem.W.findIn K (.ref C) "__setattr__" = some (some (.builtin "object.__setattr__"))
theorem Qq.get {K:PySem.W.Frag} {C:Addr} (c:Qq K C) (f:Str):PySem.W.plainGet K C f=true:=c.pg
structure Wn (K:PySem.W.Frag) (C:Addr) (f:Str) (v:V) (u:Value):Prop where
 at_:PySem.W.findIn K (.ref C) f=some (some u)
 rel:RelV v u
 get:PySem.W.specialIn K u "__get__" = some none
 cp:PySem.W.copiedNames.contains f=false
structure Meth (K:PySem.W.Frag) (C:Addr) (m:Str) (f:Addr):Prop where
 at_:PySem.W.findIn K (.ref C) m=some (some (.ref f))
 fn:PySem.W.isFn K (.ref f)=true
 kp:PySem.W.keepIn K (.ref f)=true
section
variable {X:Cx} {pins:List (Addr×Obj)} {σ:St} {H:Hp} {s:Shared} {a C dx:Addr} {fs:List (Str×V)} {f:Str} {v:V} {A:Around} {E:Value->Shared->Prop}
theorem G_ {prog:Program} {w:World} {env:Env} {e:Expr} {f:Str} {pos:Pos} {s:Shared} {Q:Value->Shared->Prop} (hb:attributeBase e f env (eval e env)=eval e env)
  (h:wpAny (model prog w) A (eval e env) (fun o s₁=>wpAny (model prog w) A (getAttr o f true) Q E s₁) E s):wpAny (model prog w) A (eval (.Attribute e f pos) env) Q E s:=
 Attribute_any_ h (by rw[arm_eval_Attribute,hb])
end
section
variable {X:Cx} {o e value:Expr} {f:Str} {pos pos' tpos:Pos} {ta tv:TE}
end
section
variable {X:Cx} {pins:List (Addr×Obj)} {σ:St} {H:Hp} {s:Shared} {A:Around} {E:Value->Shared->Prop} {Q:Value->Shared->Prop} {c:Value} {b:Bool}
inductive lY (K:PySem.W.Frag) (H:Hp):V->Value->Prop where
 | non:lY K H .non (.type "NoneType")
 | bl (x:Bool):lY K H (.bl x) (.type "bool")
 | int (i:Int):lY K H (.int i) (.type "int")
 | str (x:Str):lY K H (.str x) (.type "str")
 | flt (x:UInt64):lY K H (.flt x) (.type "float")
 | lst {a:Addr} {xs:List V} (e:H a=some (.lst xs)):lY K H (.ref a) (.type "list")
 | vq {a:Addr} {o:Obj} {xs:List V} (e:H a=some (.vq o (.lst xs))):lY K H (.ref a) (.type "list")
 | tup {a:Addr} {xs:List V} (e:H a=some (.tup xs)):lY K H (.ref a) (.type "tuple")
 | dK {a:Addr} {kvs:List (Key×V)} (e:H a=some (.dK kvs)):lY K H (.ref a) (.type "dict")
 | dT {a:Addr} {kvs:List (List Key×V)} (e:H a=some (.dT kvs)):lY K H (.ref a) (.type "dict")
 | ins {a C dx:Addr} {fs:List (Str×V)} (e:H a=some (.ins C dx fs)) (cl:Qq K C) (ha:PySem.W.findIn K (.ref C) "__class__" = some (some (.builtin "object.__class__")))
   (hn:PySem.W.specialIn K (.builtin "object.__class__") "__get__" = some (some (.builtin "getset_descriptor.__get__"))) (htk:PySem.W.takesIn K (.builtin "object.__class__")=some true)
   (hm:PySem.W.mroIn K C (.type "object")=some true):lY K H (.ref a) (.ref C)
theorem Aj {x:V} {u t:Value} (I:Inv X pins σ H s) (rx:RelV x u) (ty:lY X.K H x t) (e:PySem.W.kitOne X.K t c=some b) (h:∀tk,Q (.bool b) { s with toks:=tk }) :
  wpAny (model X.prog X.w) A (call (.builtin "isinstance") [u,c]) Q E s:=by
 cases ty with
 | non=>cases(show u=Value.none from rx); exact PySem.W.kia_one PySem.W.kitx_none I.kW True.intro e (fun z=>nomatch z) h
 | bl y=>cases(show u=Value.bool y from rx); exact PySem.W.kia_one PySem.W.kitx_bool I.kW True.intro e (fun z=>nomatch z) h
 | int i=>obtain⟨t,q⟩:=(show ∃t,u=Value.int i t from rx); cases q; exact PySem.W.kia_one PySem.W.kitx_int I.kW True.intro e (fun z=>nomatch z) h
 | str y=>obtain⟨t,q⟩:=(show ∃t,u=Value.str y t from rx); cases q; exact PySem.W.kia_one PySem.W.kitx_str I.kW True.intro e (fun z=>nomatch z) h
 | flt y=>obtain⟨t,q⟩:=(show ∃t,u=Value.float y t from rx); cases q; exact PySem.W.kia_one PySem.W.kitx_float I.kW True.intro e (fun z=>nomatch z) h
 | @lst a xs ea=>
  cases(show u=Value.ref a from rx);obtain⟨_,_,n,_,h1⟩:=(show bD X.prog X.w H s.heap a (.lst xs) from I.hok a _ ea);exact PySem.W.kia_one PySem.W.kitx_list I.kW ⟨_,h1,rfl⟩ e (fun z=>nomatch z) h
 | @vq a ob xs ea=>
  cases(show u=Value.ref a from rx);obtain⟨_,_,_,n,_,h1⟩:=(show bD X.prog X.w H s.heap a (.vq ob (.lst xs)) from I.hok a _ ea);exact PySem.W.kia_one PySem.W.kitx_list I.kW ⟨_,h1,rfl⟩ e (fun z=>nomatch z) h
 | @tup a xs ea=>
  cases(show u=Value.ref a from rx);obtain⟨_,_,_,p⟩:=(show bD X.prog X.w H s.heap a (.tup xs) from I.hok a _ ea);obtain⟨o,h1,h2,_⟩:=p;exact PySem.W.kia_one PySem.W.kitx_tuple I.kW ⟨o,h1,h2⟩ e (fun z=>nomatch z) h
 | @dK a kvs ea=>
  cases(show u=Value.ref a from rx);obtain⟨_,_,vs,_,p⟩:=(show bD X.prog X.w H s.heap a (.dK kvs) from I.hok a _ ea);obtain⟨o,es,ep,h1,h2,_⟩:=p;exact PySem.W.kia_one PySem.W.kitx_dict I.kW ⟨o,h1,h2.1⟩ e (fun z=>nomatch z) h
 | @dT a kvs ea=>
  cases(show u=Value.ref a from rx);obtain⟨_,_,xs,_,o,es,ep,h1,h2,_⟩:=(show bD X.prog X.w H s.heap a (.dT kvs) from I.hok a _ ea);exact PySem.W.kia_one PySem.W.kitx_dict I.kW ⟨o,h1,h2.1⟩ e (fun z=>nomatch z) h
 | @ins a C dx fs ea cl ha hn htk hm=>
  cases(show u=Value.ref a from rx);obtain⟨mA,O,_⟩:=G4 I.hok ea;obtain⟨od,J,_⟩:=O.look;exact PySem.W.kia_one (PySem.W.kitx_own (cl.get _) cl.hd ha hn htk hm) I.kW J e (fun z=>nomatch z) h
end
structure dN (k:Nat) (A:Around):Prop where
 hd:A.handled=none
 dp:A.depth+3*k+5<recursionLimit
 un:A.units+16*k+200<cLine
 gd:A.guards=some []
theorem dN.mono {j k:Nat} {A:Around} (r:dN k A) (h:j<=k):dN j A:=⟨r.hd,by have:=r.dp; omega,by have:=r.un; omega,r.gd⟩
theorem dN.deeper {k:Nat} {A:Around} (r:dN (k+1) A) (env:Env):dN k (A.deeper env):=
 ⟨r.hd,by have:=r.dp; show A.depth+1+3*k+5<_; omega,by have:=r.un; show A.units+3+16*k+200<_; omega,by first | exact r.gd | (simpa[Around.deeper,Around.under,Code.guards,Code.isGuard,guardIds,pushGuards] using r.gd)⟩
theorem wG {A:Around} {C:Addr} {us:List Value} {kw:List (Str×Value)}:(A.under (.builtin "type.__call__" ⟨.ref C::us,kw⟩)).depth=A.depth+1:=by
 first | rfl | simp[Around.under,Code.weight,Code.isCreation,Code.isGuard,Code.isCaller,Code.frames,Code.isFrame,guardIds]
theorem wF {A:Around} {C:Addr} {us:List Value} {kw:List (Str×Value)}:(A.under (.builtin "type.__call__" ⟨.ref C::us,kw⟩)).units=A.units+1:=by
 first | rfl | simp[Around.under,Code.cUnits,Code.frames,Code.isFrame]
theorem dN.make {k:Nat} {A:Around} (r:dN (k+1) A) (C:Addr) (us:List Value) (kw:List (Str×Value)):dN k (A.under (.builtin "type.__call__" ⟨.ref C::us,kw⟩)):=
 ⟨r.hd,by have:=r.dp; rw[wG]; omega,by have:=r.un; rw[wF]; omega,by first | exact r.gd | (simpa[Around.deeper,Around.under,Code.guards,Code.isGuard,guardIds,pushGuards] using r.gd)⟩
theorem dN.depth {k:Nat} {A:Around} (r:dN k A):A.depth<recursionLimit:=by have:=r.dp; omega
theorem dN.units {k:Nat} {A:Around} (r:dN k A):A.units+64<cLine:=by have:=r.un; omega
theorem dN.Iw {k:Nat} {A:Around} (r:dN k A):A.units<cLine:=by have:=r.un; omega
def uf:TA:=fun _ H Q=>Q [] H
def fZ (ta:TE) (tr:TA):TA:=fun σ H Q=>ta σ H fun x H1=>tr σ H1 fun xs H2=>Q (x::xs) H2
section
variable {X:Cx} {e:Expr} {es:List Expr} {te:TE} {t:TA} {pos:Pos}
theorem aa:PA X [] uf:=.mk <| fun _ _ _ _ H Q I h=>Calls.spliced_nil ⟨[],H,I,.nil,h⟩
theorem Gr (ha:PE X e te) (hr:PA X es t) (hs:starEach (e::es) X.env=(false,eval e X.env)::starEach es X.env:=by rfl):PA X (e::es) (fZ te t):=by
 refine .mk ?_;intro pos pins s σ H Q I h;rw[hs];show wpAny _ _ (spliced ((false,eval e X.env)::backTo pos (starEach es X.env))) _ _ s;refine Calls.spliced_cons (cu (ha pins s σ H _ I h) fun u s1 qx=>?_);obtain⟨x,H1,I1,r1,q1⟩:=qx;exact cu (hr pos pins s1 σ H1 _ I1 q1) fun us s2 ⟨xs,H2,I2,r2,q2⟩=>⟨x::xs,H2,I2,.cons r1 r2,q2⟩
def IK (t:TA):TE:=fun σ H Q=>t σ H fun xs H1=>xs.length<=sizeLine/\∀p,H1 p=none->Q (.ref p) (upd H1 p (.tup xs))
def K_ (t:TA):TE:=fun σ H Q=>t σ H fun xs H1=>xs.length<=sizeLine/\∀p,H1 p=none->Q (.ref p) (upd H1 p (.lst xs))
theorem Dk {x1} (h:PA X es t):PE X (.Tuple es x1 pos) (IK t):=by
 refine .mk ?_;intro pins s σ H Q I hq;refine wpAny_Tuple_spliced (cu (h pos pins s σ H _ I hq) fun us s1 ⟨xs,H1,I1,r,z,q⟩=>⟨by rw[<- r.length]; exact z,?_⟩)
 have hf:H1 s1.heap.objs.size=none:=I1.hok.fresh (a_ _);refine⟨.ref s1.heap.objs.size,upd H1 s1.heap.objs.size (.tup xs),I1.laid (t':=s1.toks) (fun b u e=>gF _ e) (a_ _) ?_,rfl,q _ hf⟩;exact⟨z,us,r,⟨_,gW _ rfl,rfl,_,rfl⟩⟩
theorem Dm (h:PA X es t):PE X (.List es pos) (K_ t):=by
 refine .mk ?_;intro pins s σ H Q I hq;refine wpAny_List_spliced (cu (h pos pins s σ H _ I hq) fun us s1 ⟨xs,H1,I1,r,z,q⟩=>⟨by rw[<- r.length]; exact z,?_⟩)
 have hf:H1 s1.heap.objs.size=none:=I1.hok.fresh (a_ _);refine⟨.ref s1.heap.objs.size,upd H1 s1.heap.objs.size (.lst xs),I1.laid (t':=s1.toks) (fun b u e=>gF _ e) (a_ _) ?_,rfl,q _ hf⟩;exact⟨z,us,0,r,gW _ rfl⟩
end
abbrev Sp:=List V->Hp->VK->XK->Prop
abbrev Bp:=List Env->Hp->Shared->XK->Value->Shared->Prop
structure xU (P:Program) (w:World) (K:PySem.W.Frag) (mg:Str->Option Value) (base:Heap) (A:Around) (outer:List Env) (s:Shared) (H:Hp):Prop where
 frames:A.frames=some outer
 mod:Mod K mg base
 bs:∀b o,base.get? b=some o->s.heap.get? b=some o/\H b=none
 Ex:base.objs.size<=s.heap.objs.size
 mO:s.heap.FunFrames base outer
 JR:∀b∈frs outer,H b=none
 hok:gr P w H s.heap
 bare:AllBare s.gens
def CE (outer:List Env) (P:Program) (w:World) (H:Hp) (s:Shared) (Q:VK) (u:Value) (s':Shared):Prop:=
 ∃v H',s'.os=s.os/\AllBare s'.gens/\Un (frs outer) [] H H' s.heap s'.heap/\gr P w H' s'.heap/\RelV v u/\Q v H'
def CR (CX:Bp) (outer:List Env) (P:Program) (w:World) (H:Hp) (s:Shared) (Q:VK) (E:XK) (r:Result) (s':Shared):Prop:=
 match r with
 | .ok (.ret u)=>CE outer P w H s Q u s'
 | .ok _=>False
 | .error e=>CX outer H s E e s'
structure bI (P:Program) (w:World) (K:PySem.W.Frag) (mg:Str->Option Value) (base:Heap) (CX:Bp) (k:Nat) (f:Addr) (fd:FuncData) (ps:List Str) (sp:Sp):Prop where
 len:∀vs H Q E,sp vs H Q E->vs.length=ps.length
 run:∀(A:Around) (outer:List Env) (s:Shared) (H:Hp) (args:Args) (us:List Value) (vs:List V) (Q:VK) (E:XK),dN k A->xU P w K mg base A outer s H->BindsTo s fd args (ps.zip us)->Vals vs us->sp vs H Q E ->
  codeAny (model P w) A (.call (.ref f) args) (CR CX outer P w H s Q E) s
theorem bI.mono {P:Program} {w:World} {K:PySem.W.Frag} {mg:Str->Option Value} {base:Heap} {CX:Bp} {j k:Nat} {f:Addr} {fd:FuncData} {ps:List Str} {sp:Sp} (F:bI P w K mg base CX j f fd ps sp) (h:j<=k) :
  bI P w K mg base CX k f fd ps sp:=⟨F.len,fun A outer s H args us vs Q E hr=>F.run A outer s H args us vs Q E (hr.mono h)⟩
theorem xU.make {P:Program} {w:World} {K:PySem.W.Frag} {mg:Str->Option Value} {base:Heap} {A:Around} {outer:List Env} {s:Shared} {H:Hp} (e:xU P w K mg base A outer s H) (C:Addr) (us:List Value) (kw:List (Str×Value)) :
  xU P w K mg base (A.under (.builtin "type.__call__" ⟨.ref C::us,kw⟩)) outer s H:=⟨by first | exact e.frames | (simpa[Around.under,Code.envs,Code.isFrame,pushEnvs] using e.frames),e.mod,e.bs,e.Ex,e.mO,e.JR,e.hok,e.bare⟩
section
variable {X:Cx} {pins:List (Addr×Obj)} {σ:St} {H:Hp} {s s':Shared}
theorem Inv.env0 (I:Inv X pins σ H s):xU X.prog X.w X.K X.mg X.base X.A X.stack s H:=
 ⟨I.ok.frames,I.ok.mod,I.bs,dC I.ok.Ex I.sz,I.stack,I.q_,I.hok,I.bare⟩
theorem Inv.after {Q:VK} {u:Value} (I:Inv X pins σ H s) (h:CE X.stack X.prog X.w H s Q u s'):EP X pins σ Q u s':=by
 obtain⟨v,H',os,bare,un,hok,r,q⟩:=h;obtain⟨hh,g,d,t,os'⟩:=s';obtain rfl:os'=s.os:=os;exact⟨v,H',I.call (h':=hh) (g':=g) (d':=d) (t':=t) (ch:=[]) un hok bare (fun b z=>absurd z (by simp)),r,q⟩
end
def lZ (sp:Sp) (H_:List V) (E:XK) (t:TA):TE:=fun σ H Q=>t σ H fun vs H1=>sp (vs++H_) H1 Q E
def Binds (K:PySem.W.Frag) (fd:FuncData) (ps:List Str) (ds:List Value):Prop:=
 ∀(s:Shared) (us:List Value),K.In s.heap->(us++ds).length=ps.length->BindsTo s fd ⟨us,[]⟩ (ps.zip (us++ds))
theorem Binds.all {K:PySem.W.Frag} {fd:FuncData} {ps:List Str} (h:∀us:List Value,us.length=ps.length->bindArgs fd ⟨us,[]⟩=pure (ps.zip us)):Binds K fd ps []:=fun s us _ hl=>by
 rw[Cz] at hl ⊢;exact .of_eq (h us hl)
def Passes (CX:Bp) (X:Cx) (E:XK):Prop:=∀(pins:List (Addr×Obj)) (σ:St) (H:Hp) (s:Shared) (e:Value) (s':Shared),Inv X pins σ H s->CX X.stack H s E e s'->X.xe e s'
section
variable {X:Cx} {CX:Bp} {k:Nat} {f C:Addr} {fd:FuncData} {ps:List Str} {sp:Sp} {H_:List V} {ds:List Value} {E:XK} {x m:Str} {p pos apos:Pos} {e o:Expr} {es:List Expr} {ta:TE} {t:TA}
theorem Ja {pins:List (Addr×Obj)} {σ:St} {H:Hp} {s:Shared} {Q:VK} {us:List Value} {vs:List V} (F:bI X.prog X.w X.K X.mg X.base CX k f fd ps sp) (hr:dN k X.A) (hb:Binds X.K fd ps ds) (hd:Vals H_ ds) (hx:Passes CX X E)
  (I:Inv X pins σ H s) (r:Vals vs us) (h:sp (vs++H_) H Q E):wpAny (model X.prog X.w) X.A (call (.ref f) us) (EP X pins σ Q) X.xe s:=by
 have r2:Vals (vs++H_) (us++ds):=r.append hd;have hl:(us++ds).length=ps.length:=by rw[<- r2.length]; exact F.len _ _ _ _ h
 refine zF (codeAny_mono (F.run X.A X.stack s H ⟨us,[]⟩ (us++ds) (vs++H_) Q E hr I.env0 (hb s us I.kW hl) r2 h) fun r s' hq=>?_);cases r with
 | error e=>exact hx pins σ H s e s' I hq
 | ok fl=>
  cases fl with
  | ret u=>exact I.after hq
  | next=>exact False.elim hq
  | brk=>exact False.elim hq
  | cont=>exact False.elim hq
theorem Gp (F:bI X.prog X.w X.K X.mg X.base CX k f fd ps sp) (hr:dN k X.A) (hg:Gl X x) (hm:X.mg x=some (.ref f)) (hk:PySem.W.keepIn X.K (.ref f)=true) (hb:Binds X.K fd ps ds) (hd:Vals H_ ds) (hx:Passes CX X E)
  (ha:PA X (e::es) t) (hdb:(x==("__debug__" : Str))=false:=by decide) (he:starEach (e::es) X.env=(false,eval e X.env)::starEach es X.env:=by rfl) (hpl:(backTo pos (starEach es X.env)).any (·.1)=false:=by rfl) :
  PE X (.Call (.Name x p) (e::es) [] pos) (lZ sp H_ E t):=by
 refine .mk ?_;intro pins s σ H Q I h;refine CT (sE I hg hm ?_ hdb);refine PySem.W.callWith_K (h₀:=X.base) I.ok.mod.Nr hk (cu (ha pos pins s σ H _ I h) fun us s1 ⟨vs,H1,I1,r,q⟩=>⟨I1.kW,?_⟩) he hpl;exact Ja F hr hb hd hx I1 r q
structure Mk (K:PySem.W.Frag) (C f:Addr):Prop where
 makes:PySem.W.makesIn K C=true
 init:PySem.W.findIn K (.ref C) "__init__" = some (some (.ref f))
 fn:PySem.W.isFn K (.ref f)=true
 kp:PySem.W.keepIn K (.ref C)=true
end
section
variable {X:Cx} {CX:Bp} {k:Nat} {f C:Addr} {fd:FuncData} {ps ks:List Str} {sp:Sp} {E:XK} {x m:Str} {p pos apos R1:Pos} {e o:Expr} {es:List Expr} {kws:List Keyword} {te ta:TE} {t tk:TA} {nm:Option Str}
structure Ql (K:PySem.W.Frag) (fd:FuncData) (ps ks:List Str) (g:List Value->List Value->List Value) (gV:List V->List V->List V):Prop where
 to:∀(s:Shared) (us ws:List Value),K.In s.heap->(g us ws).length=ps.length->BindsTo s fd ⟨us,ks.zip ws⟩ (ps.zip (g us ws))
 rel:∀{vs:List V} {us:List Value} {zs:List V} {ws:List Value},Vals vs us->Vals zs ws->Vals (gV vs zs) (g us ws)
variable {g:List Value->List Value->List Value} {gV:List V->List V->List V}
end
structure aW (N P:List Str) (sc:Scope):Prop where
 kind:sc.kind=.function
 co:sc.isCoroutine=false
 gen:sc.isGenerator=false
 nd:N.Nodup
 pre:N.take P.length=P
 par:∀x∈P,sc.names.lookup x=some .local\/sc.names.lookup x=some .cell
 Jy:∀y∈sc.names,y.2≠.free
theorem qD {kindOf:Str->Option NameKind} {x:Str}:∀{binds:List (Str×Value)} {m:Str->Option Value},(∀v,(x,v)∉binds)->bindL kindOf binds m x=m x
 | [],_,_=>rfl
 | (n,v)::r,m,h=>by
  unfold bindL;rw[qD fun w hw=>h w (gY _ hw)];split
  ·have:x≠n:=by rintro rfl; exact h v gj
   simp[this]
  ·rfl
theorem qG {kindOf:Str->Option NameKind} {x:Str}:∀{binds:List (Str×Value)} {m:Str->Option Value},(∀v,(x,v)∉binds)->bindC kindOf binds m x=m x
 | [],_,_=>rfl
 | (n,v)::r,m,h=>by
  unfold bindC;rw[qG fun w hw=>h w (gY _ hw)];split
  ·rfl
  ·have:x≠n:=by rintro rfl; exact h v gj
   simp[this]
theorem qF {kindOf:Str->Option NameKind} {x:Str} {v:Value}:∀{P:List Str} {vs:List Value} {i:Nat} {m:Str->Option Value},P.Nodup->P[i]?=some x->vs[i]?=some v->kindOf x=some .local ->
  bindL kindOf (P.zip vs) m x=some v
 | [],_,_,_,_,h,_,_=>by simp at h
 | _::_,[],_,_,_,_,h,_=>by simp at h
 | p::P,w::vs,0,m,nd,h1,h2,hk=>by
  simp at h1 h2; subst h1; subst h2;show bindL kindOf ((p,w)::P.zip vs) m p=_;unfold bindL;rw[qD fun v hv=>(List.nodup_cons.mp nd).1 (List.of_mem_zip hv).1,bj hk];simp
 | p::P,w::vs,i+1,m,nd,h1,h2,hk=>by
  show bindL kindOf ((p,w)::P.zip vs) m x=_;unfold bindL;exact qF (i:=i) (List.nodup_cons.mp nd).2 (by simpa using h1) (by simpa using h2) hk
theorem qI {kindOf:Str->Option NameKind} {x:Str} {v:Value}:∀{P:List Str} {vs:List Value} {i:Nat} {m:Str->Option Value},P.Nodup->P[i]?=some x->vs[i]?=some v->kindOf x≠some .local ->
  bindC kindOf (P.zip vs) m x=some v
 | [],_,_,_,_,h,_,_=>by simp at h
 | _::_,[],_,_,_,_,h,_=>by simp at h
 | p::P,w::vs,0,m,nd,h1,h2,hk=>by
  simp at h1 h2; subst h1; subst h2;show bindC kindOf ((p,w)::P.zip vs) m p=_;unfold bindC;rw[qG fun v hv=>(List.nodup_cons.mp nd).1 (List.of_mem_zip hv).1,bB hk];simp
 | p::P,w::vs,i+1,m,nd,h1,h2,hk=>by
  show bindC kindOf ((p,w)::P.zip vs) m x=_;unfold bindC;exact qI (i:=i) (List.nodup_cons.mp nd).2 (by simpa using h1) (by simpa using h2) hk
def start (N:List Str) (vs:List V):St:=vs.map some++List.replicate (N.length-vs.length) none
def Ax (CX:Bp) (P:Program) (w:World) (K:PySem.W.Frag) (mg:Str->Option Value) (base:Heap) (N:List Str) (qual:Str) (scope:Scope) (f:Addr) (cd:Value) (A:Around) (outer:List Env) (s:Shared) (H:Hp) (E:XK):Cx where
 prog:=P
 w:=w
 K:=K
 mg:=mg
 base:=base
 A:=A.deeper (envOfC qual scope s.heap.objs.size f cd)
 N:=N
 s₀:=s
 H₀:=H
 env:=envOfC qual scope s.heap.objs.size f cd
 outer:=outer
 stack:=envOfC qual scope s.heap.objs.size f cd::outer
 ex:=[]
 calm:=true
 fn:=fun _=>true
 pn:=[]
 xe:=fun e s'=>wpAny (model P w) (A.deeper (envOfC qual scope s.heap.objs.size f cd)) (leaving (envOfC qual scope s.heap.objs.size f cd) e) (fun _ s''=>CX outer H s E e s'') (fun e' s''=>CX outer H s E e' s'') s'
theorem uZ {sc:Scope} {n:Nat} {x:Str} (h:sc.names.lookup x=some .cell):∃c,(cellsFrom n sc.names []).lookup x=some c:=by
 have q:=PySem.W.cellsFrom_some sc.names n [] (.inl h);exact vQ.mp q
theorem Ak {CX:Bp} {P:Program} {w:World} {K:PySem.W.Frag} {mg:Str->Option Value} {base:Heap} {N ps:List Str} {qual:Str} {scope:Scope} {f:Addr} {cd:Value} {A:Around} {outer:List Env} {s s1:Shared} {H:Hp} {E:XK} {us:List Value} {vs:List V}
  (S:aW N ps scope) (hd:A.handled=none) (e0:xU P w K mg base A outer s H) (hl:vs.length=ps.length) (r:Vals vs us)
  (x:InCallC s s.heap.objs.size (bindL (envOfC qual scope s.heap.objs.size f cd).kindOf (ps.zip us) fun _=>none) (cellsFrom (s.heap.objs.size+1) scope.names []) (bindC (envOfC qual scope s.heap.objs.size f cd).kindOf (ps.zip us) fun _=>none) s1) :
  Inv (Ax CX P w K mg base N qual scope f cd A outer s H E) [] (start N vs) H s1:=by
 have hpl:ps.length<=N.length:=by have:=lE List.length S.pre; rw[vO] at this; omega
 obtain⟨h1,tk,rfl,hk⟩:=x.done;have Mf:∀b:Addr,b∉(Ax CX P w K mg base N qual scope f cd A outer s H E).ex:=fun b z=>absurd (show b∈([]:List Addr) from z) (by simp)
 refine⟨⟨e0.mod,S.kind,rfl,rfl,a_ _,fun y z c h1 h2=>?_,fun y hy=>?_,fun y c _ h=>?_,fun _=>hd,Around.frames_deeper e0.frames,.inr ⟨rfl,rfl⟩,fun b z=>absurd z (Mf b),e0.bs,e0.Ex,fun b _ _=>Mf b,fun b z=>absurd z (Mf b),e0.mO,e0.JR⟩,
  rfl,e0.bare,Un.kept hk,⟨_,x.toInCall.ns,fun i y v h1 h2 h3=>?_⟩,fun y c h=>⟨_,x.cell y c h⟩,e0.hok.fresh (a_ _),fun y c h=>?_,fun p hp=>absurd (show p∈([]:List (Addr×Obj)) from hp) (by simp),e0.hok.kept hk,?_⟩
 ·exact name_of_addr x.apart (PySem.mem_of_lookup h1) (PySem.mem_of_lookup h2)
 ·have hy:scope.names.lookup y=some .cell\/scope.names.lookup y=some .free:=hy;rcases hy with hy | hy
  ·exact uZ hy
  ·exact absurd rfl (S.Jy _ (PySem.mem_of_lookup hy))
 ·exact lF (x.above y c (PySem.mem_of_lookup h))
 ·have hi:i<vs.length:=by
   unfold start at h2;by_cases hi:i<vs.length
   ·exact hi
   ·rw[Gd (by simpa using hi)] at h2
    rw[Jj] at h2;split at h2 <;> cases h2
  have ha:vs[i]?=some v:=by
   unfold start at h2;rw[Gb (by simpa using hi),gU] at h2
   cases e:vs[i]? with
   | none=>rw[e] at h2; cases h2
   | some a=>rw[e] at h2; cases h2; rfl
  obtain⟨u,hu,rv⟩:=r.get ha
  have hp:ps[i]?=some y:=by
   rw[<- S.pre,List.getElem?_take_of_lt (by omega)]; exact h1
  have QS:ps.Nodup:=by rw[<- S.pre]; exact S.nd.sublist (List.take_sublist _ _)
  refine⟨u,rv,?_⟩;rcases S.par y (F_ hp) with k | k
  ·exact .inl ⟨k,qF QS hp hu k⟩
  ·obtain⟨c,e⟩:=uZ (n:=s.heap.objs.size+1) k;refine .inr ⟨.inl k,c,e,?_⟩;have q:=x.cell y c e;rw[qI QS hp hu (by show scope.names.lookup y≠_; rw[k]; decide)] at q
   exact q
 ·exact e0.hok.fresh (lF (x.above y c (PySem.mem_of_lookup h)))
 ·unfold start;show _=N.length;rw[jk,jh,uA];omega
theorem Mx {CX:Bp} {P:Program} {w:World} {K:PySem.W.Frag} {mg:Str->Option Value} {base:Heap} {k:Nat} {f:Addr} {name qual:Str} {params:Arguments} {body:List Stmt} {scope:Scope} {dV kV doc pm cdv ct oc:Value} {an od:Option Addr}
  {osl:Array (Option Value)} {N ps:List Str} {sp:Sp} (lk:K.lookup f=some ⟨oc,od,.func (PySem.W.fnOf name qual params body scope dV kV doc pm an cdv ct),osl⟩) (hcd:PySem.W.codeIn K cdv qual=true) (S:aW N ps scope)
  (len:∀vs H Q E,sp vs H Q E->vs.length=ps.length)
  (hbody:∀(A:Around) (outer:List Env) (s:Shared) (H:Hp) (vs:List V) (Q:VK) (E:XK),dN k (A.deeper (envOfC qual scope s.heap.objs.size f cdv))->sp vs H Q E ->
   ∃t,yQ (Ax CX P w K mg base N qual scope f cdv A outer s H E) body t/\t { nx:=fun _ H'=>Q .non H',rt:=Q } (start N vs) H) :
  bI P w K mg base CX (k+1) f (PySem.W.fnOf name qual params body scope dV kV doc pm an cdv ct) ps sp:=by
 refine⟨len,fun A outer s H args us vs Q E hr e0 hb r hsp=>?_⟩;have hl:=len _ _ _ _ hsp;have KX:K.In s.heap:=e0.mod.Nr.keeps fun b o e=>(e0.bs b o e).1;have lim:s.heap.NoLimit:=e0.mod.nolimit.keeps fun b o e=>(e0.bs b o e).1
 have hkind:∀y∈ps.zip us,scope.names.lookup y.1=some .local\/(scope.names.lookup y.1=some .cell/\((cellsFrom (s.heap.objs.size+1) scope.names []).lookup y.1).isSome=true):=fun⟨n,v⟩ hy=>by
  rcases S.par n (List.of_mem_zip hy).1 with q | q
  ·exact .inl q
  ·exact .inr ⟨q,PySem.W.cellsFrom_some _ _ _ (.inl q)⟩
 refine codeAny_call_function hr.depth (KX _ _ lk) rfl S.co S.gen rfl (PySem.W.codeRec_of KX hcd) (hb _ _ _ _ ?_);refine wpAny_newFunctionEnv_cells S.kind hkind fun env he s1 x=>?_;subst he;refine⟨lim.keeps x.toInCall.keep,codeAny_func ?_⟩;obtain⟨t,ht,hq⟩:=hbody A outer s H vs Q E (hr.deeper _) hsp;have I:Inv (Ax CX P w K mg base N qual scope f cdv A outer s H E) [] (start N vs) H s1:=Ak S hr.hd e0 hl r x;refine pA (ht [] s1 (start N vs) H _ I hq) (fun fl s' hs=>?_) fun e s' hs=>hs
 have fin:∀{σ':St} {H':Hp} {v:V} {u:Value},Inv (Ax CX P w K mg base N qual scope f cdv A outer s H E) [] σ' H' s'->RelV v u->Q v H'->CE outer P w H s Q u s':=
  fun {σ' H' v u} J rv q=>⟨v,H',J.os,J.bare,J.base,J.hok,rv,q⟩
 cases fl with
 | ret u=>
  obtain⟨v,σ',H',J,rv,q⟩:=hs;exact fin J rv q
 | next=>
  obtain⟨σ',H',J,q⟩:=hs;exact fin (v:=V.non) (u:=Value.none) J rfl q
 | brk=>
  obtain⟨_,_,_,q⟩:=hs;exact False.elim q
 | cont=>
  obtain⟨_,_,_,q⟩:=hs;exact False.elim q
section
variable {X:Cx} {x:Str} {p pos:Pos} {e:Expr} {es:List Expr} {t:TA} {id T:String} {r:List V->Hp->VK->Prop}
def IV (r:List V->Hp->VK->Prop) (t:TA):TE:=fun σ H Q=>t σ H fun vs H1=>r vs H1 Q
theorem Dq (hc:cB X (.builtin id) r) (hg:Gl X x) (hm:X.mg x=none) (hv:bootBuiltins x=some (.builtin id)) (ha:PA X (e::es) t) (hn:x ≠ "__name__" := by decide) (hdb:(x==("__debug__" : Str))=false:=by decide)
  (he:starEach (e::es) X.env=(false,eval e X.env)::starEach es X.env:=by rfl) (hpl:(backTo pos (starEach es X.env)).any (·.1)=false:=by rfl):PE X (.Call (.Name x p) (e::es) [] pos) (IV r t):=by
 refine .mk ?_;intro pins s σ H Q I h;refine CT (oH I hg hm hv ?_ hn hdb);exact PyProof.Rows.callWith_builtin1 (cu (ha pos pins s σ H _ I h) fun us s1 ⟨vs,H1,I1,r1,q1⟩=>hc pins s1 σ H1 vs us Q I1 r1 q1) he hpl
theorem zV (hc:cB X (.type T) r) (hg:Gl X x) (hm:X.mg x=none) (hv:bootBuiltins x=some (.type T)) (ha:PA X (e::es) t) (hn:x ≠ "__name__" := by decide) (hdb:(x==("__debug__" : Str))=false:=by decide)
  (he:starEach (e::es) X.env=(false,eval e X.env)::starEach es X.env:=by rfl) (hpl:(backTo pos (starEach es X.env)).any (·.1)=false:=by rfl):PE X (.Call (.Name x p) (e::es) [] pos) (IV r t):=by
 refine .mk ?_;intro pins s σ H Q I h;refine CT (oH I hg hm hv ?_ hn hdb);exact PyProof.Rows.callWith_type1 (cu (ha pos pins s σ H _ I h) fun us s1 ⟨vs,H1,I1,r1,q1⟩=>hc pins s1 σ H1 vs us Q I1 r1 q1) he hpl
end
end L2
namespace HT
open PySem PyProof.Rows
section
open PySem.SeqAt
open PySem.AutoSeq1 (wpAny_loadPart')
open PySem.MeetsSeq PySem.MeetsSeq2 PySem.MeetsSeq3
end
section
variable {prog:Program} {w:World} {A:Around} {E:Value->Shared->Prop} {s:Shared}
theorem G5 {t b:Addr} {vs ws:List Value} {Q:Value->Shared->Prop} (ht:IsTup s.heap t vs.toArray) (hb:IsTup s.heap b ws.toArray) (hv:vs≠[])
  (h1:ws=[]->Q (.ref t) s) (h2:ws≠[]->Q (.ref s.heap.objs.size) { s with heap:=s.heap.push { cls:=.type "tuple",data:=.seq (vs++ws).toArray } })
  (hsz:vs.length+ws.length<=sizeLine):wpAny (model prog w) A (binaryOp .Add (.ref t) (.ref b)) Q E s:=by
 obtain⟨⟨cls,dd,data,sl⟩,ho,hc,n,hd⟩:=id ht;obtain⟨⟨cls2,dd2,data2,sl2⟩,ho2,hc2,n2,hd2⟩:=id hb;simp only at hc hd hc2 hd2;subst hc hd hc2 hd2;have e:vs.toArray++ws.toArray=(vs++ws).toArray:=by simp
 by_cases hw:ws=[]
 ·exact concat_meets ⟨_,ho,rfl⟩ ⟨_,ho2,rfl⟩ noFill_tuple_add seq_tuple_add PySem.F.slot_tuple_add PySem.F.entry_tuple_add (PySem.F.args_tuple_add_2 _ _)
   (tuple_addW1 t b vs.toArray ws.toArray n n2 dd dd2 sl sl2 (by simpa using hv) (by simp[hw])) ⟨ho,ho2,h1 hw⟩
 ·refine concat_meets ⟨_,ho,rfl⟩ ⟨_,ho2,rfl⟩ noFill_tuple_add seq_tuple_add PySem.F.slot_tuple_add PySem.F.entry_tuple_add (PySem.F.args_tuple_add_2 _ _)
   (tuple_addW2 t b vs.toArray ws.toArray n n2 dd dd2 sl sl2 (by simpa using hv) (by simpa using hw) (by rw[kO,kO]; exact hsz)) ⟨ho,ho2,?_⟩
  rw[e];exact h2 hw
def dw (n d:Nat):Option Int->Nat
 | none=>d
 | some v=>if v<0 then(v+(n:Int)).toNat else min v.toNat n
theorem um (n d:Nat):dw n d none=d:=rfl
theorem mU (n d k:Nat):dw n d (some (k:Int))=min k n:=by
 show(if(k:Int)<0 then((k:Int)+(n:Int)).toNat else min (k:Int).toNat n)=min k n
 rw[bB (by omega),rA]
theorem I_ (n d:Nat) (hd:d<=n) (o:Option Int):dw n d o<=n:=by
 cases o with
 | none=>exact hd
 | some v=>
  show(if v<0 then(v+(n:Int)).toNat else min v.toNat n)<=n
  by_cases hv:v<0
  ·rw[bj hv]; omega
  ·rw[bB hv]; exact Nat.min_le_right _ _
theorem yL (v:Int) (n d:Nat):(if v<0 then max (v+(n:Int)) 0 else min v (n:Int))=((dw n d (some v):Nat):Int):=by
 show(if v<0 then max (v+(n:Int)) 0 else min v (n:Int))=(((if v<0 then(v+(n:Int)).toNat else min v.toNat n):Nat):Int)
 by_cases hv:v<0
 ·simp only[bj hv]; omega
 ·simp only[bB hv]; omega
theorem xO (lo hi:Option Int) (n:Nat):Builtin.Slice.sliceAdjust lo hi 1 (n:Int)=(((dw n 0 lo:Nat):Int),((dw n n hi:Nat):Int)):=by
 have h1:¬((1:Int)<0):=by omega
 unfold Builtin.Slice.sliceAdjust;simp only[h1,if_false];refine Prod.ext ?_ ?_
 ·cases lo with
  | none=>rfl
  | some v=>exact yL v n 0
 ·cases hi with
  | none=>rfl
  | some v=>exact yL v n n
theorem vV (i j:Nat):Builtin.Slice.slicePlaces (i:Int) (j:Int) 1=j-i:=by
 unfold Builtin.Slice.slicePlaces;have h1:(1:Int)>0:=by omega
 simp only[h1,if_true,Int.ediv_one];split <;> omega
theorem m7 {v:Value} {o:Option Int} {Q:Option Int->Shared->Prop} (p:IsPart v o) (h:Q o s):wpAny (model prog w) A (Builtin.Slice.slicePartIndex v) Q E s:=by
 cases p with
 | none=>exact slicePart_none h
 | int i t=>exact slicePart_int h
theorem gh {sl:Addr} {vl vu:Value} {lo hi:Option Int} {n:Nat} {Q:Int×Int×Nat->Shared->Prop} (hs:s.heap.IsSliceOf sl vl vu .none) (pl:IsPart vl lo) (pu:IsPart vu hi)
  (h:Q (((dw n 0 lo:Nat):Int),1,dw n n hi-dw n 0 lo) s):wpAny (model prog w) A (Builtin.Slice.sliceApplied (.ref sl) (pure (n:Int))) Q E s:=by
 obtain⟨os,hos,hcs,hds⟩:=id hs;unfold Builtin.Slice.sliceApplied Builtin.Slice.sliceFields;refine bJ (bJ (wpAny_field hos hds (x:=vl) rfl (bJ (wpAny_field hos hds (x:=vu) rfl (bJ (wpAny_field hos hds (x:=.none) rfl (fG ?_)))))));refine bJ (slicePart_none ?_);show wpAny _ _ (if((1:Int)==0)=true then _ else _) _ _ s
 rw[bB (by decide)]
 refine bJ (m7 pl (bJ (m7 pu (bJ (fG ?_)))));show wpAny _ _ (match Builtin.Slice.sliceAdjust lo hi 1 (n:Int) with | (lo,hi)=>pure (lo,(1:Int),Builtin.Slice.slicePlaces lo hi 1)) _ _ s
 rw[xO lo hi n];show wpAny _ _ (pure (((dw n 0 lo:Nat):Int),(1:Int),Builtin.Slice.slicePlaces ((dw n 0 lo:Nat):Int) ((dw n n hi:Nat):Int) 1)) _ _ s;rw[vV];exact fG h
theorem Dh (xs:Array Value) (i k:Nat):((List.range k).filterMap fun(m:Nat)=>xs[((i:Int)+(m:Int)*1).toNat]?).toArray=((xs.toList.drop i).take k).toArray:=by
 have e:(fun(m:Nat)=>xs[((i:Int)+(m:Int)*1).toNat]?)=fun m=>xs[i+m]?:=by
  funext m
  have:((i:Int)+(m:Int)*1).toNat=i+m:=by omega
  rw[this]
 rw[e];have:=pick_run xs i k;rw[List.filterMap_map] at this;have e2:((fun x=>xs[x]?)∘fun x=>i+x)=fun m=>xs[i+m]?:=rfl;rw[e2] at this;rw[this]
theorem kh {t sl:Addr} {items:Array Value} {vl vu:Value} {lo hi:Option Int} {Q:Value->Shared->Prop} (ht:IsTup s.heap t items) (hs:s.heap.IsSliceOf sl vl vu .none) (pl:IsPart vl lo) (pu:IsPart vu hi)
  (hw:¬(dw items.size 0 lo=0/\dw items.size items.size hi=items.size))
  (h:Q (.ref s.heap.objs.size) { s with heap:=s.heap.push { cls:=.type "tuple",data:=.seq ((items.toList.drop (dw items.size 0 lo)).take (dw items.size items.size hi-dw items.size 0 lo)).toArray } })
  (hsz:items.size<=sizeLine):wpAny (model prog w) A (getItem (.ref t) (.ref sl)) Q E s:=by
 have yG:sizeOk (.seq ((items.toList.drop (dw items.size 0 lo)).take (dw items.size items.size hi-dw items.size 0 lo)).toArray):=by
  show((items.toList.drop (dw items.size 0 lo)).take (dw items.size items.size hi-dw items.size 0 lo)).toArray.size<=sizeLine;rw[kO,vO,zM,Array.length_toList];omega
 have hj:dw items.size items.size hi<=items.size:=I_ _ _ (a_ _) hi;obtain⟨os,hos,hcs,hds⟩:=id hs;have hTs:s.TypeIs (.ref sl) "slice" := ⟨os,hos,hcs⟩;unfold getItem
 try with_reducible refine jX ?_
 first | refine bJ (fG ?_) | skip
 refine bJ (wpAny_sequenceKey ht.typeIs (by decide) ?_)
 refine bJ (wpAny_callSpecial?_slot (name:=Str.ofString "__getitem__") ht.typeIs PyProof.Rows.slot_tuple_getitem
  (wpAny_call_entry PyProof.Rows.slot_tuple_getitem ht.typeIs entry_tuple_getitem ?_ (args_tuple_getitem _ _)))
 show wpAny _ _ (Builtin.Tuple.tupleItemsOf (.ref t) >>= _) _ _ s;refine bJ (tupleItemsOf_ ht ?_);refine bJ (zJ hTs ?_);rw[bj (by decide)]
 refine bJ (gh hs pl pu ?_)
 have hno:¬((((dw items.size 0 lo:Nat):Int)==0&&(1:Int)==1&&(dw items.size items.size hi-dw items.size 0 lo)==items.size)=true):=by
  intro q;rw[lG,lG] at q;have q1:((dw items.size 0 lo:Nat):Int)=0:=eq_of_beq q.1.1;have q2:dw items.size items.size hi-dw items.size 0 lo=items.size:=eq_of_beq q.2;exact hw ⟨by omega,by omega⟩
 show wpAny _ _ (if(((dw items.size 0 lo:Nat):Int)==0&&(1:Int)==1&&(dw items.size items.size hi-dw items.size 0 lo)==items.size)=true then _ else _) _ _ s
 rw[bB hno,Dh]
 first
  | exact bJ (m:=Builtin.Tuple.tupleExact _) (zN (fG ⟨_,rfl,fG h⟩) yG)
  | exact bJ (m:=Builtin.Tuple.tupleExact _) (zN (bJ (fG (fG ⟨_,rfl,fG h⟩))) yG)
  | exact bJ (bJ (m:=Builtin.Tuple.tupleExact _) (zN (fG (fG ⟨_,rfl,fG h⟩)) yG))
  | exact bJ (bJ (m:=Builtin.Tuple.tupleExact _) (zN (fG ⟨_,rfl,fG h⟩) yG))
end
end HT
namespace L2
open PySem PySem.Spec PyProof.Rows
abbrev TO:=St->Hp->(Option Int->Hp->Prop)->Prop
structure PO (X:Cx) (e:Option Expr) (t:TO):Prop where
 mk ::
 go :
 ∀(pins:List (Addr×Obj)) (s:Shared) (σ:St) (H:Hp) (Q:Option Int->Hp->Prop),Inv X pins σ H s->t σ H Q ->
  wpAny (model X.prog X.w) X.A (evalPart e X.env) (fun u s'=>∃o H',Inv X pins σ H' s'/\IsPart u o/\Q o H') X.xe s
instance {X:Cx} {e:Option Expr} {t:TO}:CoeFun (PO X e t) (fun _=>
 ∀(pins:List (Addr×Obj)) (s:Shared) (σ:St) (H:Hp) (Q:Option Int->Hp->Prop),Inv X pins σ H s->t σ H Q ->
  wpAny (model X.prog X.w) X.A (evalPart e X.env) (fun u s'=>∃o H',Inv X pins σ H' s'/\IsPart u o/\Q o H') X.xe s):=⟨PO.go⟩
def xZ:TO:=fun _ H Q=>Q none H
def Hu (t:TE):TO:=fun σ H Q=>t σ H fun x H1=>∃i,x=.int i/\Q (some i) H1
section
variable {X:Cx} {e:Expr} {te:TE} {lo hi:Option Expr} {tl th:TO} {pos p2:Pos}
theorem jY:PO X none xZ:=by
 refine .mk ?_;intro pins s σ H Q I h;rw[evalPart_none];exact fG ⟨none,H,I,.none,h⟩
theorem gG (h:PE X e te):PO X (some e) (Hu te):=by
 refine .mk ?_;intro pins s σ H Q I hw;rw[evalPart_some];refine cu (h pins s σ H _ I hw) fun u s1 qx=>?_;obtain⟨x,H1,I1,r1,q1⟩:=qx;obtain⟨i,rfl,q⟩:=q1;obtain⟨t,rfl⟩:=r1;exact⟨some i,H1,I1,.int i t,q⟩
structure Kq (X:Cx) (r:V->Option Int->Option Int->Hp->VK->Prop):Prop where
 mk ::
 go :
 ∀(pins:List (Addr×Obj)) (s:Shared) (σ:St) (H:Hp) (x:V) (v vl vu:Value) (lo hi:Option Int) (sl:Addr) (Q:VK),Inv X pins σ H s->RelV x v->s.heap.IsSliceOf sl vl vu .none->IsPart vl lo->IsPart vu hi->r x lo hi H Q ->
  ∃T id,typeLookup (.type T) "__getitem__" = pure (some (.builtin id))/\s.TypeIs v T/\wpAny (model X.prog X.w) X.A (getItem v (.ref sl)) (EP X pins σ Q) X.xe s
instance {X:Cx} {r:V->Option Int->Option Int->Hp->VK->Prop}:CoeFun (Kq X r) (fun _=>
 ∀(pins:List (Addr×Obj)) (s:Shared) (σ:St) (H:Hp) (x:V) (v vl vu:Value) (lo hi:Option Int) (sl:Addr) (Q:VK),Inv X pins σ H s->RelV x v->s.heap.IsSliceOf sl vl vu .none->IsPart vl lo->IsPart vu hi->r x lo hi H Q ->
  ∃T id,typeLookup (.type T) "__getitem__" = pure (some (.builtin id))/\s.TypeIs v T/\wpAny (model X.prog X.w) X.A (getItem v (.ref sl)) (EP X pins σ Q) X.xe s):=⟨Kq.go⟩
def Qx (r:V->Option Int->Option Int->Hp->VK->Prop) (te:TE) (tl th:TO):TE:=fun σ H Q=>te σ H fun x H1=>tl σ H1 fun l H2=>th σ H2 fun u H3=>r x l u H3 Q
theorem gk {r:V->Option Int->Option Int->Hp->VK->Prop} (hr:Kq X r) (he:PE X e te) (hl:PO X lo tl) (hu:PO X hi th):PE X (.Subscript e (.Slice lo hi none p2) pos) (Qx r te tl th):=by
 refine .mk ?_;intro pins s σ H Q I h;refine Subscript_ (cu (he pins s σ H _ I h) fun v s1 qx=>?_);obtain⟨x,H1,I1,r1,q1⟩:=qx;refine wpAny_Slice (cu (hl pins s1 σ H1 _ I1 q1) fun vl s2 ⟨l,H2,I2,pl,q2⟩=>cu (hu pins s2 σ H2 _ I2 q2) fun vu s3 qx=>?_);obtain⟨u,H3,I3,pu,q3⟩:=qx;rw[evalPart_none];refine fG ?_;have I4:Inv X pins σ H3 { s3 with heap:=s3.heap.push { cls:=.type "slice",data:=.fields #[vl,vu,.none] } }:=I3.kept (t':=s3.toks) fun b ob q=>gF _ q
 obtain⟨T,id,hT,ht,hg⟩:=hr pins { s3 with heap:=s3.heap.push { cls:=.type "slice",data:=.fields #[vl,vu,.none] } } σ H3 x v vl vu l u s3.heap.objs.size Q I4 r1 (Heap.IsSliceOf.new ..) pl pu q3
 show wpAny (model X.prog X.w) X.A (subscriptTail e (.Slice lo hi none p2) v (.ref s3.heap.objs.size)) (EP X pins σ Q) X.xe { s3 with heap:=s3.heap.push { cls:=.type "slice",data:=.fields #[vl,vu,.none] } }
 exact tail_any (ops:=[.ref s3.heap.objs.size,v]) ht hT hg (by with_unfolding_all rfl)
def jJ (xs:List V) (lo hi:Option Int):List V:=(xs.drop (HT.dw xs.length 0 lo)).take (HT.dw xs.length xs.length hi-HT.dw xs.length 0 lo)
theorem mF (xs:List V) (lo hi:Option Int):(jJ xs lo hi).length<=xs.length:=by
 unfold jJ;rw[vO,zM];omega
def Oq (K:PySem.W.Frag):V->Option Int->Option Int->Hp->VK->Prop:=fun x lo hi H Q=>∃a xs,x=.ref a/\fH K H a xs /\
 ¬(HT.dw xs.length 0 lo=0/\HT.dw xs.length xs.length hi=xs.length)/\∀p,H p=none->Q (.ref p) (upd H p (.tup (jJ xs lo hi)))
theorem IW:Kq X (Oq X.K):=by
 refine .mk ?_;intro pins s σ H x v vl vu lo hi sl Q I rx hs pl pu h;obtain⟨a,xs,rfl,hx,hw,q⟩:=h;cases rx;obtain⟨its,r,ht,hz⟩:=I.tuple hx;have hlen:its.toArray.size=xs.length:=by rw[kO]; exact r.length.symm
 refine⟨"tuple",_,PyProof.Rows.slot_tuple_getitem.lookup,ht.typeIs,?_⟩;refine HT.kh ht hs pl pu (by rw[hlen]; exact hw) ?_ (by rw[hlen]; exact hz)
 rw[hlen];refine⟨.ref s.heap.objs.size,_,I.laid (t':=s.toks) (o:=.tup (jJ xs lo hi)) (fun b ob q=>gF _ q) (a_ _) ?_,rfl,q _ (I.hok.fresh (a_ _))⟩;exact⟨dC (mF xs lo hi) hz,_,(r.drop (HT.dw xs.length 0 lo)).take (HT.dw xs.length xs.length hi-HT.dw xs.length 0 lo),IsTup.new _ _⟩
def Lw (K:PySem.W.Frag):R2:=fun x y H Q=>∃a b xs ys,x=.ref a/\y=.ref b/\fH K H a xs/\fH K H b ys/\xs≠[]/\xs.length+ys.length<=sizeLine /\
 (ys=[]->Q (.ref a) H)/\(ys≠[]->∀p,H p=none->Q (.ref p) (upd H p (.tup (xs++ys))))
theorem Vals.rR {xs:List V} {us:List Value} (r:Vals xs us):us=[]↔xs=[]:=by
 cases r with
 | nil=>simp
 | cons _ _=>simp
theorem Gv:jm X (binaryOp .Add) (Lw X.K):=by
 refine .mk ?_;intro pins s σ H x y v u Q I rx ry h;obtain⟨a,b,xs,ys,rfl,rfl,ha,hb,hx,hz,q1,q2⟩:=h;cases rx;cases ry;obtain⟨its,r1,p1,_⟩:=I.tuple ha;obtain⟨its2,r2,p2,_⟩:=I.tuple hb;refine HT.G5 p1 p2 (fun z=>hx (r1.rR.mp z)) (fun z=>⟨.ref a,H,I,rfl,q1 (r2.rR.mp z)⟩) (fun z=>?_) (by rw[<- r1.length,<- r2.length]; exact hz)
 refine⟨.ref s.heap.objs.size,_,I.laid (t':=s.toks) (o:=.tup (xs++ys)) (fun b ob q=>gF _ q) (a_ _) ?_,rfl,q2 (fun w=>z (r2.rR.mpr w)) _ (I.hok.fresh (a_ _))⟩;exact⟨by rw[jk]; exact hz,_,r1.append r2,IsTup.new _ _⟩
end
def GZ (n:Nat) (i:Int):Option Nat:=if 0<=i then(if i<n then some i.toNat else none) else if -(n:Int)<=i then some (i+n).toNat else none
def Bf {α:Type} (xs:List α) (i:Int):Option α:=(GZ xs.length i).bind fun j=>xs[j]?
theorem yC {n:Nat} {i:Int} {j:Nat} (h:GZ n i=some j):seqIndex? i n=some j/\j<n/\-(n:Int)<=i/\i<n:=by
 unfold GZ at h;by_cases h0:0<=i
 ·rw[bj h0] at h;by_cases h1:i<n
  ·rw[bj h1] at h;have e:i.toNat=j:=Option.some.inj h;exact⟨by rw[seqIndex_of h0 h1,e],by omega,by omega,h1⟩
  ·rw[bB h1] at h; cases h
 ·rw[bB h0] at h;by_cases h1:-(n:Int)<=i
  ·rw[bj h1] at h;have e:(i+n).toNat=j:=Option.some.inj h;exact⟨by rw[seqIndex_neg (by omega) h1,e],by omega,h1,by omega⟩
  ·rw[bB h1] at h; cases h
theorem mZ {α:Type} {xs:List α} {i:Int} {v:α} (h:Bf xs i=some v):∃j,seqIndex? i xs.length=some j/\xs[j]?=some v/\j<xs.length/\-(xs.length:Int)<=i/\i<xs.length:=by
 unfold Bf at h;cases e:GZ xs.length i with
 | none=>rw[e] at h; cases h
 | some j=>
  rw[e] at h;obtain⟨h1,h2,h3,h4⟩:=yC e;exact⟨j,h1,h,h2,h3,h4⟩
theorem bV {α:Type} {xs:List α} {j:Nat} {v:α} (h:xs[j]?=some v):Bf xs (j:Int)=some v:=by
 have hj:j<xs.length:=(lL.mp h).1
 have e:GZ xs.length (j:Int)=some j:=by
  unfold GZ;rw[bj (by omega),bj (by omega)]; simp
 unfold Bf; rw[e]; exact h
def Hh (b:Expr):Prop:=∀o i,subscripted b false o i=operate [o,i] (getItem o i)
structure EY (X:Cx) (r:R2):Prop where
 mk ::
 go :
 ∀(value slice:Expr) (pins:List (Addr×Obj)) (s:Shared) (σ:St) (H:Hp) (x y:V) (v u:Value) (Q:VK),Inv X pins σ H s->RelV x v->RelV y u->r x y H Q ->
  subscripted slice false v u=operate [v,u] (getItem v u)->wpAny (model X.prog X.w) X.A (subscriptTail value slice v u) (EP X pins σ Q) X.xe s
instance {X:Cx} {r:R2}:CoeFun (EY X r) (fun _=>
 ∀(value slice:Expr) (pins:List (Addr×Obj)) (s:Shared) (σ:St) (H:Hp) (x y:V) (v u:Value) (Q:VK),Inv X pins σ H s->RelV x v->RelV y u->r x y H Q ->
  subscripted slice false v u=operate [v,u] (getItem v u)->wpAny (model X.prog X.w) X.A (subscriptTail value slice v u) (EP X pins σ Q) X.xe s):=⟨EY.go⟩
def N5 (X:Cx) (id:String) (r:V->List V->Hp->VK->Prop):Prop:=
 ∀(pins:List (Addr×Obj)) (s:Shared) (σ:St) (H:Hp) (x:V) (xs:List V) (v:Value) (us:List Value) (Q:VK),Inv X pins σ H s->RelV x v->Vals xs us->r x xs H Q ->
  wpAny (model X.prog X.w) X.A (call (.builtin id) (v::us)) (EP X pins σ Q) X.xe s
section
variable {X:Cx} {a b:Expr} {ta tb:TE} {pos:Pos}
theorem EY.or {r r':R2} (h:EY X r) (h':EY X r'):EY X (fun x y H Q=>r x y H Q\/r' x y H Q):=by
 refine .mk ?_;intro value slice pins s σ H x y v u Q I rx ry q hs;rcases q with q | q
 ·exact h value slice pins s σ H x y v u Q I rx ry q hs
 ·exact h' value slice pins s σ H x y v u Q I rx ry q hs
theorem cZ {r:R2} (hr:EY X r) (ha:PE X a ta) (hb:PE X b tb) (hs:Hh b):PE X (.Subscript a b pos) (Fj r ta tb):=by
 refine .mk ?_;intro pins s σ H Q I h;exact Subscript_ (J3 ha hb I h fun v u s2 x y H2 I2 rx ry q=>hr a b pins s2 σ H2 x y v u Q I2 rx ry q (hs _ _))
def Ow (K:PySem.W.Frag):R2:=fun x y H Q=>∃p xs i v,x=.ref p/\y=.int i/\fJ K H p xs/\Bf xs i=some v/\Q v H
def Ov (K:PySem.W.Frag):R2:=fun x y H Q=>∃p xs i v,x=.ref p/\y=.int i/\fH K H p xs/\Bf xs i=some v/\Q v H
theorem yz:EY X (Ow X.K):=by
 refine .mk ?_;intro value slice pins s σ H x y v u Q I rx ry h hs;obtain⟨p,xs,i,z,rfl,rfl,hq,he,q⟩:=h;cases rx;obtain⟨t,rfl⟩:=ry;obtain⟨its,r,pl,hz⟩:=I.list hq;obtain⟨j,h1,h2,h3,h4,h5⟩:=mZ he;obtain⟨w,ew,Lk⟩:=r.get h2;have hl:=r.length;have hn:=su;have fin:EP X pins σ Q w s:=⟨z,H,I,Lk,q⟩;by_cases h0:0<=i
 ·have hj:i.toNat=j:=by
   rw[seqIndex_of h0 h5] at h1;exact Option.some.inj h1
  exact item_listR pl.isList h0 (by omega) (by rw[hj]; simpa using ew) fin hs
 ·have hj:(i+(its.toArray.size:Int)).toNat=j:=by
   rw[seqIndex_neg (by omega) h4] at h1
   rw[kO,<- hl];exact Option.some.inj h1
  exact subscriptTail_builtinR (x:=w) pl.isList.typeIs slot_list_getitem.lookup
   (wpAny_getItem_list_neg (Q:=fun r s'=>r=w/\EP X pins σ Q r s') pl.isList (by omega) (by rw[kO] <;> omega) (by omega) (by rw[hj]; simpa using ew) ⟨rfl,fin⟩) hs
theorem JM:EY X (Ov X.K):=by
 refine .mk ?_;intro value slice pins s σ H x y v u Q I rx ry h hs;obtain⟨p,xs,i,z,rfl,rfl,hq,he,q⟩:=h;cases rx;obtain⟨t,rfl⟩:=ry;obtain⟨its,r,pl,hz⟩:=I.tuple hq;obtain⟨j,h1,h2,h3,h4,h5⟩:=mZ he;obtain⟨w,ew,Lk⟩:=r.get h2;have hl:=r.length;have hn:=su;have fin:EP X pins σ Q w s:=⟨z,H,I,Lk,q⟩;exact subscriptTail_builtinR (x:=w) pl.typeIs slot_tuple_getitem.lookup
  (getItem_tuple (j:=j) (Q:=fun r s'=>r=w/\EP X pins σ Q r s') pl (by omega) (by omega) (by rw[kO,<- hl]; exact h1) (by simpa using ew) ⟨rfl,fin⟩) hs
theorem wD (its:List Value) (n j:Nat) (u:Value):Obj.mapSeq (·.setIfInBounds j u) { cls:=.type "list",data:=.seq its.toArray n }={ cls:=.type "list",data:=.seq (its.set j u).toArray n }:=by
 simp[Obj.mapSeq]
theorem Inv.lst {pins:List (Addr×Obj)} {σ:St} {H:Hp} {s:Shared} {p:Addr} {xs:List V} (I:Inv X pins σ H s) (h:H p=some (.lst xs)) :
  ∃(its:List Value) (n:Nat),Vals xs its/\s.heap.get? p=some { cls:=.type "list",data:=.seq its.toArray n }/\xs.length<=sizeLine:=by
 obtain⟨z,its,n,r,e⟩:=I.hok p _ h;exact⟨its,n,r,e,z⟩
theorem Inv.JC {pins:List (Addr×Obj)} {σ:St} {H:Hp} {s:Shared} {p:Addr} {xs ys:List V} {its its':List Value} {n n':Nat} {f:Obj->Obj} (I:Inv X pins σ H s) (h:H p=some (.lst xs))
  (ho:s.heap.get? p=some { cls:=.type "list",data:=.seq its.toArray n }) (hf:f { cls:=.type "list",data:=.seq its.toArray n }={ cls:=.type "list",data:=.seq its'.toArray n' }) (r:Vals ys its') (hz:ys.length<=sizeLine) (t:Nat) :
  Inv X pins σ (upd H p (.lst ys)) { s with heap:=s.heap.update p f,toks:=t }:=by
 have e:(s.heap.update p f).get? p=some { cls:=.type "list",data:=.seq its'.toArray n' }:=by
  rw[Heap.get?_update_self f ho (by rw[hf] <;> rfl),hf]
 refine I.write (x:=p) (e:=p) (by rw[h]; trivial) (.inl rfl) (fun b u hb q=>(Heap.get?_update_other _ _ (Ne.symm hb)).trans q) ⟨_,e⟩ ?_
 exact⟨hz,its',n',r,e⟩
def Lp:V->V->V->Hp->(Hp->Prop)->Prop:=fun o i v H Q=>∃p xs k j,o=.ref p/\i=.int k/\H p=some (.lst xs)/\GZ xs.length k=some j/\Q (upd H p (.lst (xs.set j v)))
theorem set_list:Hi X Lp:=by
 refine .mk ?_;intro pins s σ H o i v ov iv u Q I ro ri rv h;obtain⟨p,xs,k,j,rfl,rfl,hp,hj,q⟩:=h;cases ro;obtain⟨t,rfl⟩:=ri;obtain⟨its,n,r,ho,hz⟩:=I.lst hp;obtain⟨h1,h2,h3,h4⟩:=yC hj;have hl:=r.length;have hn:=su
 have I':Inv X pins σ (upd H p (.lst (xs.set j v))) { s with heap:=s.heap.update p (Obj.mapSeq (·.setIfInBounds j u)) }:=
  I.JC hp ho (wD its n j u) (r.set rv j) (by rw[List.length_set]; exact hz) s.toks
 by_cases h0:0<=k
 ·have hk:k.toNat=j:=by
   rw[seqIndex_of h0 h4] at h1;exact Option.some.inj h1
  exact PySem.W.ki_setAt ho h0 (by omega) (by rw[kO,<- hl]; exact h4) (by rw[hk]; exact⟨_,I',q⟩)
 ·have hk:(k+(its.toArray.size:Int)).toNat=j:=by
   rw[seqIndex_neg (by omega) h3] at h1
   rw[kO,<- hl];exact Option.some.inj h1
  exact PySem.W.ki_setBack ho (by omega) (by rw[kO,<- hl]; exact h3) (by omega) (by rw[hk]; exact⟨_,I',q⟩)
theorem rn (lo hi:Option Int) (n:Nat):(sliceBounds lo hi none n).1=((HT.dw n 0 lo:Nat):Int)/\(sliceBounds lo hi none n).2.1=((HT.dw n n hi:Nat):Int)/\(sliceBounds lo hi none n).2.2=1:=by
 refine⟨?_,?_,rfl⟩
 ·cases lo with
  | none=>simp[sliceBounds,HT.dw]
  | some i=>
   simp only[sliceBounds,HT.dw,Option.getD_none,show(1:Int)>0 by decide,if_true]
   by_cases h:i<0
   ·simp only[h,if_true] <;> omega
   ·simp only[h,if_false] <;> omega
 ·cases hi with
  | none=>simp[sliceBounds,HT.dw]
  | some i=>
   simp only[sliceBounds,HT.dw,Option.getD_none,show(1:Int)>0 by decide,if_true]
   by_cases h:i<0
   ·simp only[h,if_true] <;> omega
   ·simp only[h,if_false] <;> omega
theorem pq (its:List Value) (lo hi:Option Int):slicePick its.toArray lo hi none=((its.drop (HT.dw its.length 0 lo)).take (HT.dw its.length its.length hi-HT.dw its.length 0 lo)).toArray:=by
 obtain⟨h1,h2,h3⟩:=rn lo hi its.toArray.size;unfold slicePick;rw[h1,h2,h3];simp only[sliceRange_one,pick_run,kO] <;> rfl
def Ot (K:PySem.W.Frag):V->Option Int->Option Int->Hp->VK->Prop:=fun x lo hi H Q=>∃a xs,x=.ref a/\fJ K H a xs/\∀p,H p=none->Q (.ref p) (upd H p (.lst (jJ xs lo hi)))
theorem yj:Kq X (Ot X.K):=by
 refine .mk ?_;intro pins s σ H x v vl vu lo hi sl Q I rx hs pl pu h;obtain⟨a,xs,rfl,hx,q⟩:=h;cases rx;obtain⟨its,r,ht,hz⟩:=I.list hx;have hlen:=r.length;refine⟨"list",_,slot_list_getitem.lookup,ht.isList.typeIs,?_⟩;refine wpAny_getItem_list_slice ht.isList hs pl pu .none (by simp) ?_ (by rw[kO] <;> omega)
 rw[pq,<- hlen];refine⟨.ref s.heap.objs.size,_,I.laid (t':=s.toks) (o:=.lst (jJ xs lo hi)) (fun b ob q=>gF _ q) (a_ _) ?_,rfl,q _ (I.hok.fresh (a_ _))⟩;exact⟨dC (mF xs lo hi) hz,_,0,(r.drop (HT.dw xs.length 0 lo)).take (HT.dw xs.length xs.length hi-HT.dw xs.length 0 lo),gW _ rfl⟩
theorem sW:cB X (.builtin "len") (fun xs H Q=>∃p ys,xs=[.ref p]/\(fJ X.K H p ys\/fH X.K H p ys)/\Q (.int ys.length) H):=by
 refine .mk ?_;intro pins s σ H xs us Q I r h;obtain⟨p,ys,rfl,hq,q⟩:=h;obtain⟨u,rfl,rx⟩:=vals1 r;cases rx;have hn:=su;rcases hq with hq | hq
 ·obtain⟨its,r',pl,hz⟩:=I.list hq;have hlen:=r'.length;exact Calls.call_len_list pl.isList (by simp only[kO] <;> omega) ⟨.int ys.length,H,I.tok _,⟨s.toks+1,by rw[kO,hlen]⟩,q⟩
 ·obtain⟨its,r',pl,hz⟩:=I.tuple hq;have hlen:=r'.length;exact len_tuple pl (by simp only[kO] <;> omega) ⟨.int ys.length,H,I.tok _,⟨s.toks+1,by rw[kO,hlen]⟩,q⟩
theorem sV:cB X (.type "list") (fun xs H Q=>∃p ys,xs=[.ref p]/\(fJ X.K H p ys\/fH X.K H p ys)/\∀l,H l=none->Q (.ref l) (upd H l (.lst ys))):=by
 refine .mk ?_;intro pins s σ H xs us Q I r h;obtain⟨p,ys,rfl,hq,q⟩:=h;obtain⟨u,rfl,rx⟩:=vals1 r;cases rx;have fin:∀(its:List Value),Vals ys its->ys.length<=sizeLine->∀(h':Heap) (c':Nat),(∀b o',s.heap.get? b=some o'->h'.get? b=some o') ->
   h'.get? s.heap.objs.size=some { cls:=.type "list",dict:=none,data:=.seq its.toArray c',slots:=#[] }->EP X pins σ Q (.ref s.heap.objs.size) { s with heap:=h' }:=fun its r' hz h' c' kp e=>
  ⟨.ref s.heap.objs.size,_,I.laid (t':=s.toks) kp (a_ _) (show bD X.prog X.w _ h' _ (.lst ys) from⟨hz,its,c',r',e⟩),rfl,q _ (I.hok.fresh (a_ _))⟩
 rcases hq with hq | hq
 ·obtain⟨its,r',pl,hz⟩:=I.list hq;have hlen:=r'.length;obtain⟨o,ho,hc,n,hd⟩:=pl.isList;exact call_list_seq p (.inl rfl) ho hc hd (fun h' c' kp e=>fin its r' hz h' c' kp e) (by simp only[kO] <;> omega)
 ·obtain⟨its,r',pl,hz⟩:=I.tuple hq;have hlen:=r'.length;obtain⟨o,ho,hc,n,hd⟩:=pl;exact call_list_seq p (.inr rfl) ho hc hd (fun h' c' kp e=>fin its r' hz h' c' kp e) (by simp only[kO] <;> omega)
theorem pF:cB X (.type "tuple") (fun xs H Q=>∃p ys,xs=[.ref p]/\((fJ X.K H p ys/\∀l,H l=none->Q (.ref l) (upd H l (.tup ys)))\/(fH X.K H p ys/\Q (.ref p) H))):=by
 refine .mk ?_;intro pins s σ H xs us Q I r h;obtain⟨p,ys,rfl,h⟩:=h;obtain⟨u,rfl,rx⟩:=vals1 r;cases rx;rcases h with⟨hq,q⟩ | ⟨hq,q⟩
 ·obtain⟨its,r',pl,hz⟩:=I.list hq;have hlen:=r'.length;refine call_tuple_list pl.isList (fun h' kp=>?_) (by simp only[kO] <;> omega)
  have I1:Inv X pins σ H { s with heap:=h' }:=I.kept (t':=s.toks) kp
  have I2:Inv X pins σ (upd H h'.objs.size (.tup ys)) { s with heap:=h'.push { cls:=.type "tuple",data:=.seq its.toArray } }:=
   I1.laid (t':=s.toks) (fun b o e=>gF _ e) (a_ _) (show bD X.prog X.w _ _ _ (.tup ys) from⟨hz,its,r',IsTup.new _ _⟩)
  exact⟨.ref h'.objs.size,_,I2,rfl,q _ (I1.hok.fresh (a_ _))⟩
 ·obtain⟨its,r',pl,hz⟩:=I.tuple hq;exact call_tuple_same pl ⟨.ref p,H,I,rfl,q⟩
def Qv (K:PySem.W.Frag) (T:String) (x:V) (H:Hp):Prop:=match x with
 | .str _=>T = "str"
 | .int _=>T = "int"
 | .ref p=>(T = "list" /\ ∃xs,fJ K H p xs)\/(T = "tuple" /\ ∃o,K.lookup p=some o/\o.cls=.type "tuple" /\ o.dict=none) \/
   (T = "dict" /\ ((∃kvs,H p=some (.dK kvs))\/∃kvs,H p=some (.dT kvs)))\/(T = "set" /\ ∃S n,H p=some (.set S n))
 | _=>False
theorem Iz {pins:List (Addr×Obj)} {σ:St} {H:Hp} {s:Shared} {T:String} {x:V} {v:Value} (I:Inv X pins σ H s) (r:RelV x v) (ty:Qv X.K T x H) :
  s.TypeIs v T/\∀a,v=.ref a->∃ob,s.heap.get? a=some ob/\ob.dict=none:=by
 cases x with
 | str z=>
  obtain⟨t,rfl⟩:=r;cases(show T = "str" from ty);exact⟨typeIs_str s z t,fun _ e=>nomatch e⟩
 | int i=>
  obtain⟨t,rfl⟩:=r;cases(show T = "int" from ty);exact⟨typeIs_int s i t,fun _ e=>nomatch e⟩
 | ref p=>
  cases r;rcases ty with⟨rfl,xs,hq⟩ | ⟨rfl,o,hk,hc,hd⟩ | ⟨rfl,hk⟩ | ⟨rfl,S,n,hk⟩
  ·obtain⟨its,_,pl,_⟩:=I.list hq;refine⟨pl.isList.typeIs,fun a e=>?_⟩;cases e;obtain⟨o,n,e,c,hd,_⟩:=pl;exact⟨o,e,hd⟩
  ·refine⟨⟨o,I.kW p o hk,hc⟩,fun a e=>?_⟩;cases e;exact⟨o,I.kW _ o hk,hd⟩
  ·have z:∃o,s.heap.get? p=some o/\o.ExactDict:=by
    rcases hk with⟨kvs,hk⟩ | ⟨kvs,hk⟩
    ·obtain⟨_,_,_,_,o,_,_,e,ex,_⟩:=I.hok p _ hk;exact⟨o,e,ex⟩
    ·obtain⟨_,_,_,_,o,_,_,e,ex,_⟩:=I.hok p _ hk;exact⟨o,e,ex⟩
   obtain⟨o,e,ex⟩:=z;refine⟨⟨o,e,ex.1⟩,fun a e2=>?_⟩;cases e2;exact⟨o,e,ex.2.1⟩
  ·obtain⟨o,_,_,_,e,ex,_⟩:=I.hok p _ hk;refine⟨⟨o,e,ex.1⟩,fun a e2=>?_⟩;cases e2;exact⟨o,e,ex.2.1⟩
 | _=>exact False.elim ty
def Oe (K:PySem.W.Frag) (T:String) (r:V->List V->Hp->VK->Prop) (to:TE) (t:TA):TE:=fun σ H Q=>to σ H fun x H1=>Qv K T x H1/\t σ H1 fun xs H2=>r x xs H2 Q
variable {o e:Expr} {es:List Expr} {to:TE} {t:TA} {name:Str} {apos cpos:Pos} {T id:String} {r:V->List V->Hp->VK->Prop}
theorem LC (pa:PlainAttrs T) (slot:Slot T name id) (hty:typeOf (.builtin id)=pure (.type "method_descriptor")) (hm:N5 X id r) (ho:PE X o to) (ha:PA X (e::es) t)
  (hbase:attributeBase o name X.env (eval o X.env)=eval o X.env:=by rfl)
  (hfew:((backTo cpos (starEach (e::es) X.env)).all (fun x=>!x.1)&&(backToKw cpos (keywordEach [] X.env)).all (fun x=>x.1.isSome)
   && decide ((e::es).length+([]:List Keyword).length+(if([]:List Keyword).isEmpty then 0 else 1)<30))=true:=by rfl)
  (hline:(apos.endLine==cpos.line)=true:=by rfl) (hs:starEach (e::es) X.env=(false,eval e X.env)::starEach es X.env:=by rfl) (hplain:(backTo cpos (starEach es X.env)).any (·.1)=false:=by rfl) :
  PE X (.Call (.Attribute o name apos) (e::es) [] cpos) (Oe X.K T r to t):=by
 refine .mk ?_;intro pins s σ H Q I h;refine wpAny_Call_method_late hbase hfew hline rfl (cu (ho pins s σ H _ I h) fun v s1 qx=>?_);obtain⟨x,H1,I1,r1,ty,q1⟩:=qx;obtain⟨h1,h2⟩:=Iz I1 r1 ty;refine⟨T,id,pa,slot,hty,h1,h2,?_⟩;have hA:=ha cpos pins s1 σ H1 _ I1 q1;rw[hs] at hA ⊢;refine Calls.callWith_builtin (by show(false || (backTo cpos (starEach es X.env)).any (·.1))=false; rw[hplain] <;> rfl) (Calls.evalArgs_plain ?_)
 exact cu hA fun us s2 ⟨vs,H2,I2,r2,q2⟩=>hm pins s2 σ H2 x vs v us Q I2 r1 r2 q2
end
def Vf (X:Cx) (id:String) (r:V->List V->Hp->VK->Prop):Prop:=
 ∀(pins:List (Addr×Obj)) (s:Shared) (σ:St) (H:Hp) (x:V) (xs:List V) (v:Value) (us:List Value) (Q:VK),Inv X pins σ H s->RelV x v->Vals xs us->r x xs H Q ->
  wpAny (model X.prog X.w) X.A (call (.builtin id) (v::us)) (EP X pins σ Q) X.xe s
theorem Vals.un {x:V} {xs:List V} {us:List Value} (h:Vals (x::xs) us):∃u r,us=u::r/\RelV x u/\Vals xs r:=by
 cases h with
 | cons r t=>exact⟨_,_,rfl,r,t⟩
theorem Vals.no {us:List Value} (h:Vals [] us):us=[]:=by
 cases h;rfl
theorem Vals.one {x:V} {us:List Value} (h:Vals [x] us):∃u,us=[u]/\RelV x u:=by
 obtain⟨u,r,rfl,h1,h⟩:=h.un;cases h.no;exact⟨u,rfl,h1⟩
theorem Vals.two {x y:V} {us:List Value} (h:Vals [x,y] us):∃u v,us=[u,v]/\RelV x u/\RelV y v:=by
 obtain⟨u,r,rfl,h1,h⟩:=h.un;obtain⟨v,rfl,h2⟩:=h.one;exact⟨u,v,rfl,h1,h2⟩
section
variable {X:Cx} {pins:List (Addr×Obj)} {σ:St} {H:Hp} {s:Shared} {l b:Addr} {xs ys zs:List V}
theorem Inv.O2 {its its':List Value} {n:Nat} {f:Array Value->Array Value} {t':Nat} (I:Inv X pins σ H s) (hH:H l=some (.lst xs))
  (e:s.heap.get? l=some { cls:=.type "list",data:=.seq its.toArray n }) (hf:f its.toArray=its'.toArray) (hv:Vals ys its') (hz:ys.length<=sizeLine) :
  Inv X pins σ (upd H l (.lst ys)) { s with heap:=s.heap.update l (Obj.mapSeq f),toks:=t' }:=by
 have q:=PySem.IsL.update e f;rw[hf] at q;refine I.write (x:=l) (e:=l) (by rw[hH]; exact trivial) (.inl rfl) (fun b' u hb hu=>(Heap.get?_update_other s.heap (Obj.mapSeq f) (Ne.symm hb)).trans hu) ⟨_,q⟩ ?_
 exact⟨hz,its',_,hv,q⟩
theorem Inv.Mq {its:List Value} {t':Nat} (I:Inv X pins σ H s) (hv:Vals ys its) (hz:ys.length<=sizeLine) :
  Inv X pins σ (upd H s.heap.objs.size (.lst ys)) { s with heap:=s.heap.push { cls:=.type "list",data:=.seq its.toArray },toks:=t' }:=
 I.laid (fun _ _ q=>gF _ q) (a_ _) ⟨hz,its,0,hv,gW _ rfl⟩
theorem Inv.fresh (I:Inv X pins σ H s):H s.heap.objs.size=none:=I.hok.fresh (a_ _)
theorem Inv.JD (I:Inv X pins σ H s) (hH:H l=some (.lst xs)):xs.length<=sizeLine/\∃(its:List Value) (n:Nat),Vals xs its/\xs.length=its.length/\s.heap.get? l=some { cls:=.type "list",data:=.seq its.toArray n }:=by
 obtain⟨z,its,n,r,e⟩:=I.hok l _ hH;exact⟨z,its,n,r,r.length,e⟩
end
section
variable {X:Cx}
def FP:V->List V->Hp->VK->Prop:=fun x vs H Q=>∃l xs y,x=.ref l/\vs=[y]/\H l=some (.lst xs)/\xs.length<sizeLine/\Q .non (upd H l (.lst (xs++[y])))
theorem jc:Vf X "list.append" FP:=by
 intro pins s σ H x vs v us Q I rx rv h;obtain⟨l,xs,y,rfl,rfl,hH,hz,q⟩:=h;cases rx;obtain⟨u,rfl,ru⟩:=rv.one;obtain⟨z,its,n,r,hl,e⟩:=I.JD hH;refine call_meets F.slot_list_append ⟨_,e,rfl⟩ F.entry_list_append (F.args_list_append_2 _ _) (PySem.list_append l its.toArray n u (by rw[kO]; omega)) ⟨e,?_⟩
 refine⟨.non,_,I.O2 (its':=its++[u]) hH e (by simp) (r.append (.cons ru .nil)) ?_,rfl,q⟩
 rw[jk,List.length_singleton];omega
def Cw:R2:=fun x y H Q=>∃l b xs zs,x=.ref l/\y=.ref b/\H l=some (.lst xs)/\H b=some (.lst zs)/\xs.length+zs.length<=sizeLine/\∀p,H p=none->Q (.ref p) (upd H p (.lst (xs++zs)))
theorem Du:jm X (binaryOp .Add) Cw:=by
 refine .mk ?_;intro pins s σ H x y v u Q I rx ry h;obtain⟨l,b,xs,zs,rfl,rfl,hH,hB,hz,q⟩:=h;cases rx;cases ry;obtain⟨z,its,n,r,hl,e⟩:=I.JD hH;obtain⟨z2,its2,n2,r2,hl2,e2⟩:=I.JD hB;refine PySem.P.add_list e e2 ?_ (by rw[kO,kO]; omega)
 have ea:its.toArray++its2.toArray=(its++its2).toArray:=by simp
 rw[ea];exact⟨.ref _,_,I.Mq (t':=s.toks) (r.append r2) (by rw[jk]; omega),rfl,q _ I.fresh⟩
end
section
variable {prog:Program} {w:World} {A:Around} {E:Value->Shared->Prop} {s:Shared}
end
section
variable {X:Cx}
end
end L2
namespace Ro
open PySem PySem.W PySem.Calls PyProof.Rows
theorem mL {P:Params} {h:Heap}:∀(ns:List Int) (vs:List Value),WellAll P h vs (ns.map WData.int)->IntsAre vs ns:=by
 intro ns
 induction ns with
 | nil=>
  intro vs w;rw[List.map_nil] at w;cases w;exact .nil
 | cons n ns ih=>
  intro vs w;rw[gR] at w;cases w with
  | cons a b=>
   cases a;exact .cons _ _ (ih _ b)
theorem zx {l:OpenLaw} {n:Nat} (hn:l.most=some n) {P:Params} {h:Heap} {args:List WData} {vals:List Value}
  (hpre:l.row.toRowW.claim.pre args=true) (hwl:WellAll P h vals args) :
  ∃a vs ns,vals=[Value.ref a]/\args=[WData.list (ns.map WData.int)]/\h.get? a=some { cls:=.type "list",data:=.seq vs.toArray }/\IntsAre vs ns/\ns.length<=n:=by
 have hsh:WShape.hasAll [] args [.list .int]=true:=(pre_splitW hpre).1;have hc:l.pre.holds [] { args:=args }=true:=(pre_splitW hpre).2;obtain⟨d,r,rfl,h1,h2⟩:=hasAllW_cons hsh;obtain rfl:=hasAllW_nil h2;obtain⟨xs,rfl,h3⟩:=hasW_list h1;obtain⟨ns,rfl⟩:=items_int h3
 have hlen:ns.length<=n:=by
  unfold OpenLaw.pre at hc
  have h4:(WTm.not (.lt (.lit (.int (n:Int))) (.len (.arg 0)))).holds [] { args:=[.list (ns.map .int)] }=true:=by
   have h4:=(holds_andW hc).1;rw[hn] at h4;exact h4
  have h5:=condW_of h4 (w_not (w_lt w_lit (w_len_list (w_arg rfl))));rw[jh] at h5;refine Nat.le_of_not_lt fun q=>?_;have q':(n:Int)<((ns.length:Nat):Int):=by omega
  first
   | (rw[eV q'] at h5; exact absurd h5 (by decide))
   | (simp at h5; omega)
 cases hwl with
 | cons w1 w2=>
  cases w2;cases w1 with
  | list ho hall=>exact⟨_,_,ns,rfl,rfl,ho,mL ns _ hall,hlen⟩
theorem zR (l:OpenLaw) (args:List WData):l.row.toRowW.claim.post args (.bool true) args=true:=
 postW_of (r:=l.row.toRowW) (X:=(true==true))
  (show WShape.has [] (.bool true) .bool=true by first | rfl | decide | simp[WShape.has,WShape.arms,WShape.armsAll])
  (show(WTm.eq .res (.lit (.bool true))).value [] { args:=args,res:=some (.bool true),after:=args }=some (.bool (true==true)) from w_eq_bool (w_res rfl) w_lit) rfl
theorem vm {l:OpenLaw} {n:Nat} {q:Program} {loose:List Str} {XP:(Str->Option Value)->Heap->Prop} {YP:World->Heap->Prop} {d:DefRec}
  (hn:l.most=some n) (hdf:d.params.defaults=[])
  (call:∀(w:World) (s₀ s₁:Shared) (mg mb:Str->Option Value) (fa:Addr) (o:Obj) (pm cd doc:Value) (a:Addr) (vs:List Value) (ns:List Int),
   Ground q loose [] XP w s₀ mg mb s₁.heap->YP w s₁.heap ->
   s₁.heap.get? fa=some o->o.data=.func (docDef d.name d.params d.body d.scope pm cd doc)->s₁.heap.CodeRec cd d.name->mg d.name=some (.ref fa) ->
   s₁.heap.get? a=some { cls:=.type "list",data:=.seq vs.toArray }->IntsAre vs ns->ns.length<=n->s₁.gens = #[] ->
   codeAny (model l.prog w) callerA (.call (.ref fa) ⟨[.ref a],[]⟩) (fun r s'=>r=.ok (.ret (.bool true))/\OldK s₁.heap s'.heap/\s'.os=s₁.os/\AllBare s'.gens) s₁) :
  WalkO q loose XP YP l.row.toRowW d [] (fun f vs=>PySem.call f vs):=by
 intro w s₀ s₁ mg mb G Y fa o pm cd doc dV kV ho hd hcd hD hmg hg args vals as hpre hlay hrd hwl hlo;obtain rfl:dV=.none:=Dflts.none hD hdf;obtain rfl:kV=.none:=Dflts.noKw hD;obtain⟨a,vs,ns,rfl,rfl,hobj,hints,hlen⟩:=zx hn hpre hwl;refine enter_call (codeAny_mono (call w s₀ s₁ mg mb fa o pm cd doc a vs ns G Y ho (fd_plain hd) hcd hmg hobj hints hlen hg) fun r s' hq=>?_);obtain⟨rfl,h2,h3,h4⟩:=hq;exact⟨.inl ⟨.bool true,.bool true,[],rfl,fun _=>rfl,.bool true,zR l _,fun _=>⟨List.Pairwise.nil,fun _ hm=>(nomatch hm)⟩⟩,h2,h3,h4⟩
section
variable {prog:Program} {w:World} {A:Around} {E:Value->Shared->Prop} {s:Shared} {K:Frag}
def ledger (h:Heap) (L d:Addr):List (Addr×Obj):=(List.range h.objs.size).filterMap fun a=>if a=L\/a=d then none else(h.get? a).map fun o=>(a,o)
end
end Ro
namespace L2
open PySem PySem.Spec PyProof.Rows
theorem pW:∀{vs:List Value} {ns:List Int},IntsAre vs ns->Vals (ns.map V.int) vs
 | _,_,.nil=>.nil
 | _,_,.cons n t h=>.cons ⟨t,rfl⟩ (pW h)
def Only (H:Hp):Prop:=∀b,H b=none\/∃o xs,H b=some (.vq o (.lst xs))
theorem DP {P:Program} {w:World} {K:PySem.W.Frag} {mg mb:Str->Option Value} {CX:Bp} {k:Nat} {fa a:Addr} {fd:FuncData} {x:Str} {sp:Sp} {s₁:Shared} {vs:List Value} {ns:List Int}
  (KX:K.In s₁.heap) (hns:s₁.heap.Ns mainGlobals mg) (hb:s₁.heap.Ns builtinsNs mb) (hbb:∀x:Str,x ≠ "__name__" -> mb x=bootBuiltins x) (hlim:s₁.heap.NoLimit) (hg:s₁.gens = #[])
  (ha:s₁.heap.get? a=some { cls:=.type "list",data:=.seq vs.toArray }) (hi:IntsAre vs ns) (hl:ns.length<=sizeLine) (hr:dN k callerA)
  (F:∀base:Heap,K.In base->base.Ns mainGlobals mg->bI P w K mg base CX k fa fd [x] sp) (hbind:∀(s:Shared) (u:Value),BindsTo s fd ⟨[u],[]⟩ [(x,u)])
  (hsp:∀H:Hp,Only H->fJ K H a (ns.map V.int)->sp [.ref a] H (fun v _=>v=.bl true) fun _ _ _=>False)
  (Pn:∀H e s',CX [] H s₁ (fun _ _ _=>False) e s'->False) :
  codeAny (model P w) callerA (.call (.ref fa) ⟨[.ref a],[]⟩) (fun r s'=>r=.ok (.ret (.bool true))/\OldK s₁.heap s'.heap/\s'.os=s₁.os/\AllBare s'.gens) s₁:=by
 have rv:=pW hi;have lenV:=hi.length;have core:∀H:Hp,Only H->fJ K H a (ns.map V.int)->gr P w H s₁.heap->(∀b,H b≠none->b=a)->(H a≠none->K.lookup a=none) ->
   codeAny (model P w) callerA (.call (.ref fa) ⟨[.ref a],[]⟩) (fun r s'=>r=.ok (.ret (.bool true))/\OldK s₁.heap s'.heap/\s'.os=s₁.os/\AllBare s'.gens) s₁:=by
  intro H hO hS hok hA hK;have yO:∀{b:Addr} {o:Obj},s₁.heap.get? b=some o->H b=none->(sH s₁.heap H).get? b=some o:=fun e n=>D_ e n
  have Mf:∀{b:Addr} {o:Obj} {es:Array DictEntry} {ep:Nat},s₁.heap.get? b=some o->o.data=.dict es ep->H b=none:=fun {b o es ep} e d=>by
   cases q:H b with
   | none=>rfl
   | some u=>
    have e':b=a:=hA b (by rw[q]; simp)
    subst e';rw[ha] at e; cases e;have d':Data.seq vs.toArray _=Data.dict es ep:=d;cases d'
  have Nm:∀{b:Addr} {m:Str->Option Value},s₁.heap.Ns b m->(sH s₁.heap H).Ns b m:=fun {b m} ⟨o,es,ep,e,d,r⟩=>⟨o,es,ep,yO e (Mf e d),d,r⟩
  have Q3:K.In (sH s₁.heap H):=fun b o e=>yO (KX b o e) (by
   cases q:H b with
   | none=>rfl
   | some u=>
    have e':b=a:=hA b (by rw[q]; simp)
    subst e'
    rw[hK (by rw[q]; simp)] at e; cases e)
  have hM:Mod K mg (sH s₁.heap H):=⟨Q3,Nm hns,⟨mb,Nm hb,hbb⟩,let ⟨mc,h1,h2⟩:=hlim; ⟨mc,Nm h1,h2⟩⟩;have e0:xU P w K mg (sH s₁.heap H) callerA [] s₁ H:=⟨rfl,hM,fun b o e=>Gx e,Nat.le_of_eq (Am _ _),trivial,fun b hb=>absurd (show b∈([]:List Addr) from hb) (by simp),hok,.of_eq hg⟩
  refine codeAny_mono ((F _ Q3 (Nm hns)).run callerA [] s₁ H ⟨[.ref a],[]⟩ [.ref a] [.ref a] _ _ hr e0 (hbind s₁ (.ref a)) (.cons rfl .nil) (hsp H hO hS)) fun r s' h=>?_;cases r with
  | error e=>exact(Pn H e s' h).elim
  | ok fl=>
   cases fl with
   | next=>exact False.elim h
   | brk=>exact False.elim h
   | cont=>exact False.elim h
   | ret u=>
    obtain⟨v,H',os,bare,un,hok',r',q⟩:=h;have q':v=.bl true:=q;subst q';obtain rfl:u=Value.bool true:=r';refine⟨rfl,OldK.of_keep fun b o e=>?_,os,bare⟩;cases q:H b with
    | none=>exact un.keep b o e q (by intro z; exact absurd (show b∈([]:List Addr) from z) (by simp)) (by simp)
    | some u=>
     rcases hO b with z | ⟨ob,xs,z⟩
     ·rw[q] at z; cases z
     ·have z2:=un.sI b ob _ z;obtain⟨e1,_⟩:=hok b _ z;obtain⟨e2,_⟩:=hok' b _ z2;rw[e] at e1; cases e1;exact e2
 cases hk:K.lookup a with
 | some o=>
  have e:=KX a o hk;rw[ha] at e;cases e;refine core (fun _=>none) (fun _=>.inl rfl) (.inr ⟨_,vs.toArray,_,hk,rfl,rfl,rfl,by rw[kO,lenV]; exact hl,by simpa using rv⟩) (fun b u z=>by have z':(none:Option HO)=some u:=z; cases z') (fun b z=>absurd rfl z) fun z=>absurd rfl z
 | none=>
  refine core (fun b=>if b=a then some (.vq { cls:=.type "list",data:=.seq vs.toArray } (.lst (ns.map V.int))) else none) (fun b=>?_) (.inl (.inr ⟨{ cls:=.type "list",data:=.seq vs.toArray },bj rfl⟩)) (fun b u z=>?_) (fun b z=>?_) fun _=>hk
  ·by_cases hb:b=a
   ·exact .inr ⟨_,_,bj hb⟩
   ·exact .inl (bB hb)
  ·by_cases hb:b=a
   ·have z':=(bj hb).symm.trans z;cases z';subst hb;exact⟨ha,by rw[jh]; exact hl,vs,_,rv,ha⟩
   ·have z':=(bB hb).symm.trans z;cases z'
  ·by_cases hb:b=a
   ·exact hb
   ·exact absurd (bB hb) z
abbrev KOf {K:PySem.W.Frag} {h:Heap} (_:K.In h):PySem.W.Frag:=K
theorem Ff {l:PySem.W.OpenLaw} {n k:Nat} {q:Program} {loose:List Str} {XP:(Str->Option Value)->Heap->Prop} {YP:World->Heap->Prop} {d:DefRec} {K:Params->PySem.W.Frag} {CX:World->Bp} {sp:World->Sp} {x:Str}
  (hn:l.most=some n) (hn2:n<=sizeLine) (hdf:d.params.defaults=[]) (hr:dN k callerA)
  (hY:∀(w:World) (h:Heap),YP w h->(K w.params).In h)
  (F:∀(w:World) (mg:Str->Option Value) (fa:Addr) (h:Heap),(K w.params).In h->h.Ns mainGlobals mg->mg d.name=some (.ref fa) ->
   ∃fd:FuncData,(∀(s:Shared) (u:Value),BindsTo s fd ⟨[u],[]⟩ [(x,u)]) /\
    ∀base:Heap,(K w.params).In base->base.Ns mainGlobals mg->bI l.prog w (K w.params) mg base (CX w) k fa fd [x] (sp w))
  (hsp:∀(w:World) (H:Hp) (a:Addr) (ns:List Int),ns.length<=n->Only H->fJ (K w.params) H a (ns.map V.int)->sp w [.ref a] H (fun v _=>v=.bl true) fun _ _ _=>False)
  (Pn:∀(w:World) (H:Hp) (s:Shared) (e:Value) (s':Shared),CX w [] H s (fun _ _ _=>False) e s'->False) :
  PySem.W.WalkO q loose XP YP l.row.toRowW d [] (fun f vs=>PySem.call f vs):=by
 refine Ro.vm hn hdf fun w s₀ s₁ mg mb fa o pm cd doc a vs ns G Y ho hd hcd hmg hobj hints hlen hg=>?_;have KX:=hY w _ Y;obtain⟨fd,hb,hF⟩:=F w mg fa _ KX G.T.g hmg;exact DP KX G.T.g G.T.b G.T.builtins G.T.nolimit hg hobj hints (dC hlen hn2) hr hF hb (fun H hO hS=>hsp w H a ns hlen hO hS) fun H e s'=>Pn w H s₁ e s'
end L2
namespace L2
open PySem PySem.Spec PyProof.Rows
def inClass (s:Stmt) (j:Nat):Stmt:=match s with
 | .ClassDef _ _ _ body _ _ _ _ _ _ _=>body.getD j (.Pass ⟨0,0,0,0⟩)
 | _=>.Pass ⟨0,0,0,0⟩
def dI (s:Stmt):Arguments:=match s with
 | .FunctionDef _ a _ _ _ _ _ _ _ _=>a
 | _=>{ posonlyargs:=[],args:=[],vararg:=none,kwonlyargs:=[],kw_defaults:=[],kwarg:=none,defaults:=[] }
def dq (s:Stmt):List Stmt:=match s with
 | .FunctionDef _ _ b _ _ _ _ _ _ _=>b
 | _=>[]
def aF (s:Stmt):Scope:=match s with
 | .FunctionDef _ _ _ _ _ _ sc _ _ _=>sc
 | _=>{ kind:=.function,names:=[],isGenerator:=false,isCoroutine:=false }
abbrev gw:Bp:=fun _ _ _ _ _ _=>False
abbrev E0:XK:=fun _ _ _=>False
theorem LQ {X:Cx}:Passes gw X E0:=fun _ _ _ _ _ _ _ h=>h.elim
structure iV (K:PySem.W.Frag) (x qual:Str) (st:Stmt) (f:Addr) (fd:FuncData):Prop where
 ex:∃(oc:Value) (od:Option Addr) (kV doc pm:Value) (an:Option Addr) (cdv ct:Value) (osl:Array (Option Value)),
  fd=PySem.W.fnOf x qual (dI st) (dq st) (aF st) .none kV doc pm an cdv ct/\K.lookup f=some ⟨oc,od,.func fd,osl⟩/\PySem.W.codeIn K cdv qual=true
 kp:PySem.W.keepIn K (.ref f)=true
section
variable {P:Program} {w:World} {K:PySem.W.Frag} {mg:Str->Option Value} {base:Heap}
theorem iV.ok {x qual:Str} {st:Stmt} {f:Addr} {fd:FuncData} {N ps:List Str} {k:Nat} {sp:Sp} (F:iV K x qual st f fd) (S:aW N ps (aF st)) (len:∀vs H Q E,sp vs H Q E->vs.length=ps.length)
  (hbody:∀(cdv:Value) (A:Around) (outer:List Env) (s:Shared) (H:Hp) (vs:List V) (Q:VK) (E:XK),dN k (A.deeper (envOfC qual (aF st) s.heap.objs.size f cdv))->sp vs H Q E ->
   ∃t,yQ (Ax gw P w K mg base N qual (aF st) f cdv A outer s H E).Np (dq st) t/\t { nx:=fun _ H'=>Q .non H',rt:=Q } (start N vs) H):bI P w K mg base gw (k+1) f fd ps sp:=by
 obtain⟨oc,od,kV,doc,pm,an,cdv,ct,osl,rfl,lk,hcd⟩:=F.ex;refine Mx lk hcd S len fun A outer s H vs Q E hr hsp=>?_;obtain⟨t,h,q⟩:=hbody cdv A outer s H vs Q E hr hsp;exact⟨t,h.Np,q⟩
theorem iV.binds {x qual:Str} {st:Stmt} {f:Addr} {fd:FuncData} {ps:List Str} (F:iV K x qual st f fd)
  (h:∀(kV doc pm:Value) (an:Option Addr) (cdv ct:Value) (us:List Value),us.length=ps.length->bindArgs (PySem.W.fnOf x qual (dI st) (dq st) (aF st) .none kV doc pm an cdv ct) ⟨us,[]⟩=pure (ps.zip us)):Binds K fd ps []:=by
 obtain⟨oc,od,kV,doc,pm,an,cdv,ct,osl,rfl,lk,hcd⟩:=F.ex;exact .all (h kV doc pm an cdv ct)
theorem wO {x qual:Str} {st:Stmt} {f:Addr} {oc:Value} {od an:Option Addr} {osl:Array (Option Value)} {kV doc pm cdv ct:Value} (l:K.lookup f=some ⟨oc,od,.func (PySem.W.fnOf x qual (dI st) (dq st) (aF st) .none kV doc pm an cdv ct),osl⟩)
  (c:PySem.W.codeIn K cdv qual=true) (k:PySem.W.keepIn K (.ref f)=true):iV K x qual st f (PySem.W.fnOf x qual (dI st) (dq st) (aF st) .none kV doc pm an cdv ct):=⟨⟨oc,od,kV,doc,pm,an,cdv,ct,osl,rfl,l,c⟩,k⟩
end
theorem bA {n:Nat} (h:n<=1000):n<sizeLine:=Nat.lt_of_le_of_lt h (by decide)
section
variable {X:Cx}
theorem pv (i:Nat) {x:Str} {pos:Pos} (hN:X.N[i]?=some x:=by rfl) (hv:Qg X.env.scope x:=by first | exact Or.inl rfl | exact Or.inr (Or.inl rfl) | exact Or.inr (Or.inr rfl)) (hd:(x==("__debug__" : Str))=false:=by decide)
  (hcd:(x==("__classdict__" : Str))=false:=by decide):PE X (.Name x pos) (kY i):=Jp hN hv hd hcd
end
def aH (H H':Hp):Prop:=∀b o,H b=some o->H' b=some o
theorem aH.refl (H:Hp):aH H H:=fun _ _ h=>h
theorem aH.trans {H H1 H2:Hp} (a:aH H H1) (b:aH H1 H2):aH H H2:=fun c o h=>b c o (a c o h)
section
variable {κ:Type} [DecidableEq κ]
def putK (kvs:List (κ×V)) (k:κ) (v:V):List (κ×V):=
 if(kvs.any fun kv=>decide (kv.1=k))=true then kvs.map (fun kv=>if kv.1=k then(kv.1,v) else kv) else kvs++[(k,v)]
theorem mC (kvs:List (κ×V)) (k:κ) (v:V):(putK kvs k v).length<=kvs.length+1:=by
 unfold putK;split
 ·rw[jh]; omega
 ·rw[jk,fj,CG]; omega
theorem KV.any {kvs:List (κ×V)} {vs:List (κ×Value)} (r:KV kvs vs) (k:κ):(kvs.any fun kv=>decide (kv.1=k))=vs.any fun kv=>decide (kv.1=k):=by
 unfold KV at r
 induction r with
 | nil=>rfl
 | cons h t ih=>rw[List.any_cons,List.any_cons,ih,h.1]
theorem KV.repl {kvs:List (κ×V)} {vs:List (κ×Value)} (r:KV kvs vs) (k:κ) {y:V} {u:Value} (ry:RelV y u) :
  KV (kvs.map fun kv=>if kv.1=k then(kv.1,y) else kv) (vs.map fun kv=>if kv.1=k then(kv.1,u) else kv):=by
 unfold KV at r ⊢
 induction r with
 | nil=>exact .nil
 | @cons p q ps qs h t ih=>
  rw[gR,gR];refine .cons ?_ ih;obtain⟨h1,h2⟩:=h;by_cases e:p.1=k
  ·rw[bj e,bj (h1.symm.trans e)]; exact⟨h1,ry⟩
  ·rw[bB e,bB (fun z=>e (h1.trans z))]; exact⟨h1,h2⟩
theorem KV.put {kvs:List (κ×V)} {vs:List (κ×Value)} (r:KV kvs vs) (k:κ) {y:V} {u:Value} (ry:RelV y u):KV (putK kvs k y) (stored vs k u):=by
 unfold putK stored;rw[r.any k];by_cases e:(vs.any fun kv=>decide (kv.1=k))=true
 ·rw[bj e,bj e]; exact r.repl k ry
 ·rw[bB e,bB e]; exact Paired.snoc r ⟨rfl,ry⟩
theorem KV.length {kvs:List (κ×V)} {vs:List (κ×Value)} (r:KV kvs vs):kvs.length=vs.length:=Paired.length r
end
theorem DR {P:Program} {w:World} {k:Key} {u:Value} (r:RelV (kV k) u):(cC P w).is k u=true:=by
 cases k with
 | inl i=>obtain⟨t,e⟩:=(show ∃t,u=Value.int i t from r); subst e; exact uP P w i t
 | inr x=>obtain⟨t,e⟩:=(show ∃t,u=Value.str x t from r); subst e; exact uO P w x t
theorem qu {P:Program} {w:World}:∀{ks:List Key} {us:List Value},Vals (ks.map kV) us->ItemsAre (cC P w) ks us
 | [],_,r=>by rw[List.map_nil] at r; cases r; exact .nil
 | k::ks,_,r=>by
  rw[gR] at r;cases r with
  | cons h t=>exact .cons (DR h) (qu t)
abbrev KT (H:Hp):List (List Key×V)->List (List Key×Addr×Value)->Prop:=Paired fun p q=>p.1=q.1/\H q.2.1=some (.tup (p.1.map kV))/\RelV p.2 q.2.2
section
variable {P:Program} {w:World} {H:Hp} {h:Heap} {a:Addr}
theorem HJ {u:HO} (ok:gr P w H h) (e:Rd H a u):bD P w H h a u:=e.ok ok
theorem Ia {kvs:List (Key×V)} (ok:gr P w H h) (e:Rd H a (.dK kvs)):kvs.length<=sizeLine/\(a==sysModules)=false/\∃vs,KV kvs vs/\h.DictOf (cC P w) a vs:=
 show bD P w H h a (.dK kvs) from HJ ok e
theorem Ib {kvs:List (Key×V)} (ok:gr P w H h) (e:H a=some (.dK kvs)):kvs.length<=sizeLine/\(a==sysModules)=false/\∃vs,KV kvs vs/\h.DictOf (cC P w) a vs:=Ia ok (.inl e)
theorem JH {ks:List Key} (ok:gr P w H h) (e:H a=some (.tup (ks.map kV))):(tupleKind (cC P w)).is h ks a:=by
 obtain⟨_,its,r,o,h1,h2,n,h3⟩:=(show bD P w H h a (.tup (ks.map kV)) from ok a _ e);exact⟨o,its.toArray,n,h1,h2,h3,by simpa using qu r⟩
theorem MJ {kvs:List (List Key×V)} (ok:gr P w H h) (e:Rd H a (.dT kvs)):kvs.length<=sizeLine/\(a==sysModules)=false /\
  ∃xs,KT H kvs xs/\h.DictOfH (tupleKind (cC P w)) a xs:=by
 obtain⟨z,y,xs,r,o,es,ep,h1,h2,h3,h4,h5⟩:=(show bD P w H h a (.dT kvs) from HJ ok e);refine⟨z,y,xs,r,o,es,ep,h1,h2,h3,h4,fun x hx=>?_,h5⟩
 have all:∀{l:List (List Key×V)} {m:List (List Key×Addr×Value)},KT H l m->∀x∈m,(tupleKind (cC P w)).is h x.1 x.2.1:=by
  intro l m q
  induction q with
  | nil=>intro x hx; exact nomatch hx
  | @cons p q ps qs hq t ih=>
   intro x hx;rcases jE.mp hx with e | hx
   ·subst e;exact JH ok (by rw[<- hq.1]; exact hq.2.1)
   ·exact ih x hx
 exact all r x hx
end
section
variable {X:Cx} {pins:List (Addr×Obj)} {σ:St} {H:Hp} {s:Shared} {a:Addr} {y v:V} {u r:Value} {o:Option V} {A:Around} {E:Value->Shared->Prop}
theorem Inv.big (I:Inv X pins σ H s):sysModules<s.heap.objs.size:=by
 have h:mainGlobals<s.heap.objs.size:=(I.mod.glob.keeps I.bk).lt;exact Nat.lt_trans (by decide) h
theorem yK {h':Heap} {t':Nat} {ob:HO} (I:Inv X pins σ H s) (mu:MN (H a)) (hs:Heap.SameBut a s.heap h') (he:∃q,h'.get? a=some q) (new:bD X.prog X.w (upd H a ob) h' a ob) :
  Inv X pins σ (upd H a ob) { s with heap:=h',toks:=t' }:=
 I.write (x:=a) (e:=a) mu (.inl rfl) (fun b q hb z=>(hs.2 b hb).trans z) he new
theorem Ec {P:Program} {w:World} {H':Hp} {h':Heap} {kvs:List (Key×V)} {vs:List (Key×Value)} (z:kvs.length<=sizeLine) (hd:(a==sysModules)=false) (rel:KV kvs vs) (dd:h'.DictOf (cC P w) a vs) :
  bD P w H' h' a (.dK kvs):=⟨z,hd,vs,rel,dd⟩
end
section
variable {X:Cx} {pins:List (Addr×Obj)} {σ:St} {H:Hp} {s:Shared} {a:Addr} {kvs:List (Key×V)} {k:Key} {u:Value} {A:Around} {E:Value->Shared->Prop}
end
section
variable {X:Cx} {o i e value:Expr} {pos pos' tpos:Pos} {td ty tv:TE}
end
theorem uV {P:Program} {w:World} {H:Hp} (h:Heap) (hb:sysModules<h.objs.size):bD P w H (h.push { cls:=.type "dict",data:=.dict #[] }) h.objs.size (.dK []):=
 ⟨fW _,beq_eq_false_iff_ne.mpr (Ne.symm (eF hb)),[],.nil,Heap.DictOf.new h⟩
section
variable {X:Cx} {pos:Pos}
end
def vD:List (TE×TE)->St->Hp->(List (V×V)->Hp->Prop)->Prop
 | [],_,H,Q=>Q [] H
 | (tk,tv)::r,σ,H,Q=>tk σ H fun x H1=>tv σ H1 fun y H2=>vD r σ H2 fun ps H3=>Q ((x,y)::ps) H3
abbrev VV:List (V×V)->List (Value×Value)->Prop:=Paired fun p q=>RelV p.1 q.1/\RelV p.2 q.2
def NZ (X:Cx) (pos:Pos) (keys:List (Option Expr)) (values:List Expr) (tR:List (TE×TE)):Prop:=
 ∀(pins:List (Addr×Obj)) (s:Shared) (σ:St) (H:Hp) (Q:List (V×V)->Hp->Prop),Inv X pins σ H s->vD tR σ H Q ->
  wpAny (model X.prog X.w) X.A (evalPairs (pairTrees keys values X.env pos)) (fun vs s'=>∃ps H',Inv X pins σ H' s'/\VV ps vs/\Q ps H') X.xe s
theorem Gh {X:Cx} {pos:Pos}:NZ X pos [] [] []:=fun pins s σ H Q I h=>pairTrees_nil_walk ⟨[],H,I,.nil,h⟩
theorem Df {X:Cx} {pos:Pos} {k v:Expr} {ks:List (Option Expr)} {vs:List Expr} {tk tv:TE} {tR:List (TE×TE)} (hk:PE X k tk) (hv:PE X v tv) (hr:NZ X pos ks vs tR) :
  NZ X pos (some k::ks) (v::vs) ((tk,tv)::tR):=fun pins s σ H Q I h=>
 pairTrees_cons_walk (cu (hk pins s σ H _ I h) fun u s1 ⟨x,H1,I1,rx,q1⟩=>cu (hv pins s1 σ H1 _ I1 q1) fun w2 s2 ⟨y,H2,I2,ry,q2⟩=>
  cu (hr pins s2 σ H2 _ I2 q2) fun ws s3 ⟨ps,H3,I3,rel,q3⟩=>⟨(x,y)::ps,H3,I3,.cons ⟨rx,ry⟩ rel,q3⟩)
def iJ (kvs more:List (Key×V)):List (Key×V):=more.foldl (fun acc kv=>putK acc kv.1 kv.2) kvs
theorem KV.merge:∀{more:List (Key×V)} {rs:List (Key×Value)} {kvs:List (Key×V)} {vs:List (Key×Value)},KV more rs->KV kvs vs->KV (iJ kvs more) (merged vs rs):=by
 intro more rs kvs vs r;unfold KV at r
 induction r generalizing kvs vs with
 | nil=>intro q; exact q
 | @cons p q ps qs h t ih=>
  intro r0
  have e:KV (putK kvs p.1 p.2) (stored vs q.1 q.2):=by
   have:=r0.put p.1 h.2;rw[<- h.1]; exact this
  exact ih e
theorem jr:∀(more kvs:List (Key×V)),(iJ kvs more).length<=kvs.length+more.length
 | [],kvs=>by show kvs.length<=kvs.length+0; omega
 | p::r,kvs=>by
  have h1:=jr r (putK kvs p.1 p.2);have h2:=mC kvs p.1 p.2;show(iJ (putK kvs p.1 p.2) r).length<=_;rw[fj]; omega
theorem oW {P:Program} {w:World}:∀{kvs:List (Key×V)} {ws:List (Value×Value)},VV (kvs.map fun kv=>(kV kv.1,kv.2)) ws->∃rs,Carries (cC P w) ws rs/\KV kvs rs
 | [],_,r=>by rw[List.map_nil] at r; cases r; exact⟨[],True.intro,.nil⟩
 | p::kvs,_,r=>by
  rw[gR] at r;cases r with
  | @cons a b as bs h t=>
   obtain⟨rs,c,q⟩:=oW (P:=P) (w:=w) t;obtain⟨b1,b2⟩:=b;exact⟨(p.1,b2)::rs,⟨DR h.1,rfl,c⟩,.cons ⟨rfl,h.2⟩ q⟩
def Lb (tR:List (TE×TE)):TE:=fun σ H Q=>∀p,H p=none->vD tR σ (upd H p (.dK [])) fun ps H2=>H2 p=some (.dK [])/\∃kvs:List (Key×V),ps=kvs.map (fun kv=>(kV kv.1,kv.2))/\kvs.length<=15/\Q (.ref p) (upd H2 p (.dK (iJ [] kvs)))
theorem Gn {X:Cx} {pos:Pos} {keys:List (Option Expr)} {values:List Expr} {tR:List (TE×TE)} (h:NZ X pos keys values tR) (hall:keys.all (·.isSome)=true) (hl:keys.length=values.length) (h0:keys≠[])
  (h15:keys.length<=15):PE X (.Dict keys values pos) (Lb tR):=by
 refine .mk ?_;intro pins s σ H Q I q;have hn:=I.hok.fresh (a_ s.heap.objs.size);have I1:=I.laid (a:=s.heap.objs.size) (o:=.dK []) (h':=s.heap.push { cls:=.type "dict",data:=.dict #[] }) (t':=s.toks) (fun _ _ q=>gF _ q) (a_ _) (uV s.heap I.big);refine wpAny_Dict_walk (knd:=cC X.prog X.w) hall hl h0 h15 (cu (h pins _ σ _ _ I1 (q _ hn)) fun ws s2 qx=>?_);obtain⟨ps,H2,I2,rel,e,kvs,ep,lk,q2⟩:=qx;subst ep;obtain⟨rs,c,rk⟩:=oW (P:=X.prog) (w:=X.w) rel;obtain⟨z,hd,Vr,r0,dd⟩:=Ib I2.hok e;cases r0;refine⟨rs,c,dd,fun h' NB hs=>⟨.ref s.heap.objs.size,_,?_,rfl,q2⟩⟩
 have hz:(iJ [] kvs).length<=sizeLine:=by
  have h1:=jr kvs [];rw[CG] at h1;rw[sizeLine_eq]; omega
 have he:∃q,h'.get? s.heap.objs.size=some q:=let ⟨q,_,_,hq,_⟩:=NB; ⟨q,hq⟩;exact yK I2 (by rw[e]; exact True.intro) hs he (Ec hz hd (rk.merge .nil) NB)
structure M1 (X:Cx) (o:Expr) (m:Str) (apos:Pos) (e:Expr) (cpos:Pos):Prop where
 base:attributeBase o m X.env (eval o X.env)=eval o X.env
 few:((backTo cpos (starEach [e] X.env)).all (fun x=>!x.1)&&(backToKw cpos (keywordEach [] X.env)).all (fun x=>x.1.isSome)
  && decide (([e]:List Expr).length+([]:List Keyword).length+(if([]:List Keyword).isEmpty then 0 else 1)<30))=true
 line:(apos.endLine==cpos.line)=true
 trees:backTo cpos (starEach [e] X.env)=[(false,eval e X.env)]
structure M2 (X:Cx) (o:Expr) (m:Str) (apos:Pos) (e f:Expr) (cpos:Pos):Prop where
 base:attributeBase o m X.env (eval o X.env)=eval o X.env
 few:((backTo cpos (starEach [e,f] X.env)).all (fun x=>!x.1)&&(backToKw cpos (keywordEach [] X.env)).all (fun x=>x.1.isSome)
  && decide (([e,f]:List Expr).length+([]:List Keyword).length+(if([]:List Keyword).isEmpty then 0 else 1)<30))=true
 line:(apos.endLine==cpos.line)=true
 trees:backTo cpos (starEach [e,f] X.env)=[(false,eval e X.env),(false,eval f X.env)]
def Vh (H:Hp) (a:Addr):Prop:=(∃kvs,Rd H a (.dK kvs))\/∃kvs,Rd H a (.dT kvs)
theorem JN {X:Cx} {pins:List (Addr×Obj)} {σ:St} {H:Hp} {s:Shared} {a:Addr} (I:Inv X pins σ H s) (d:Vh H a) :
  s.TypeIs (.ref a) "dict" /\ (∀b,Value.ref a=.ref b->∃ob,s.heap.get? b=some ob/\ob.dict=none)/\(a==sysModules)=false:=by
 rcases d with⟨kvs,e⟩ | ⟨kvs,e⟩
 ·obtain⟨_,hd,vs,_,dd⟩:=Ia I.hok e;refine⟨dd.typeIs,fun b q=>?_,hd⟩;cases q;obtain⟨ob,_,_,h1,h2,_⟩:=dd;exact⟨ob,h1,h2.2.1⟩
 ·obtain⟨_,hd,xs,_,dd⟩:=MJ I.hok e;refine⟨dd.typeIs,fun b q=>?_,hd⟩;cases q;obtain⟨ob,_,_,h1,h2,_⟩:=dd;exact⟨ob,h1,h2.2.1⟩
section
variable {X:Cx} {pins:List (Addr×Obj)} {σ:St} {H:Hp} {s:Shared} {a:Addr} {y d:V} {u r:Value} {o:Option V} {A:Around} {E:Value->Shared->Prop}
end
section
variable {X:Cx} {o e f:Expr} {apos cpos:Pos} {td ty tx:TE}
end
section
variable {X:Cx} {pins:List (Addr×Obj)} {σ:St} {H:Hp} {s:Shared} {a:Addr} {kvs:List (Key×V)} {A:Around} {E:Value->Shared->Prop}
end
section
variable {X:Cx} {pins:List (Addr×Obj)} {σ:St} {H:Hp} {s:Shared} {a:Addr} {y:V} {u:Value} {A:Around} {E:Value->Shared->Prop}
end
end L2
set_option maxHeartbeats 4000000
namespace L2
open PySem PySem.Spec PyProof.Rows
def fC (env:Env) (cs:List (Str×Addr)) (y:Str×NameKind):List (Str×Addr):=
 if y.2==.free then(match env.cells.lookup y.1 with | some c=>(y.1,c)::cs | none=>cs) else cs
def lV (sc:Scope) (env:Env):List (Str×Addr):=sc.names.foldl (fC env) []
theorem uY {env:Env}:∀(ns:List (Str×NameKind)) (acc:List (Str×Addr)),(∀y c,acc.lookup y=some c->env.cells.lookup y=some c)->∀y c,(ns.foldl (fC env) acc).lookup y=some c->env.cells.lookup y=some c
 | [],acc,h,y,c,e=>h y c e
 | n::ns,acc,h,y,c,e=>by
  refine uY ns (fC env acc n) (fun z d q=>?_) y c e;unfold fC at q;split at q
  ·split at q
   ·rename_i c' hc';rw[lH] at q;split at q
    ·rename_i hz;have hz':z=n.1:=by simpa using hz
     cases q;rw[hz']; exact hc'
    ·exact h z d q
   ·exact h z d q
  ·exact h z d q
theorem dX {sc:Scope} {env:Env} {y:Str} {c:Addr} (e:(lV sc env).lookup y=some c):env.cells.lookup y=some c:=
 uY sc.names [] (fun _ _ q=>by simp at q) y c e
theorem yM {env:Env} {y:Str} {c:Addr} (hc:env.cells.lookup y=some c):∀(ns:List (Str×NameKind)) (acc:List (Str×Addr)),acc.lookup y=some c->(ns.foldl (fC env) acc).lookup y=some c
 | [],acc,h=>h
 | n::ns,acc,h=>by
  refine yM hc ns (fC env acc n) ?_;unfold fC;split
  ·split
   ·rename_i c' hc';rw[lH];split
    ·rename_i hz;have hz':y=n.1:=by simpa using hz
     rw[<- hz',hc] at hc';exact hc'.symm
    ·exact h
   ·exact h
  ·exact h
theorem xq {env:Env} {y:Str} {c:Addr} (hc:env.cells.lookup y=some c):∀(ns:List (Str×NameKind)) (acc:List (Str×Addr)),(y,NameKind.free)∈ns->(ns.foldl (fC env) acc).lookup y=some c
 | [],_,h=>by simp at h
 | n::ns,acc,h=>by
  rcases jE.mp h with e | h
  ·subst e;refine yM hc ns _ ?_;unfold fC;simp[hc]
  ·exact xq hc ns _ h
theorem my {sc:Scope} {env:Env} {x:Str} {k':NameKind} (h:(relabel sc env).names.lookup x=some k'):∃k,(x,k)∈sc.names/\(k'=k\/(k=.free/\k'=.cell)):=by
 have m:=PySem.mem_of_lookup h;unfold relabel at m;obtain⟨⟨n,k⟩,hm,e⟩:=zH.mp m;dsimp only at e;split at e
 ·rename_i hc;injection e with e1 e2
  subst e1;refine⟨k,hm,.inr ⟨?_,e2.symm⟩⟩
  have:(k==NameKind.free)=true:=by
   cases hk:(k==NameKind.free) with
   | true=>rfl
   | false=>rw[hk] at hc; simp at hc
  exact beq_iff_eq.mp this
 ·injection e with e1 e2
  subst e1 e2;exact⟨k,hm,.inl rfl⟩
theorem jW {env:Env} {x:Str} (hf:env.scope.kind=.function) (hk:env.kindOf x=some .cell):∀(ns:List (Str×NameKind)),ns.lookup x=some .free ->
  (ns.map fun(y:Str×NameKind)=>if(y.2==.free&&env.scope.kind==.function&&env.kindOf y.1==some .cell) then(y.1,NameKind.cell) else(y.1,y.2)).lookup x=some .cell
 | [],h=>by simp at h
 | (n,k)::r,h=>by
  have ih:=jW hf hk r;rw[gR];cases hx:x==n with
  | true=>
   have e:x=n:=by simpa using hx
   subst e;simp only[lH,beq_self_eq_true] at h;cases h;dsimp only;rw[bj (by simp[hf,hk])]
   simp[lH]
  | false=>
   simp only[lH,hx] at h;dsimp only;split
   ·simp only[lH,hx]; exact ih h
   ·simp only[lH,hx]; exact ih h
def Kp (X:Cx) (N':List Str) (sc:Scope) (fp:List Addr) (s:Shared) (H:Hp):Cx where
 prog:=X.prog
 w:=X.w
 K:=X.K
 mg:=X.mg
 base:=X.base
 A:=X.A
 N:=N'
 s₀:=s
 H₀:=H
 env:=compEnvC sc (lV sc X.env) s.heap.objs.size X.env
 outer:=X.stack
 stack:=X.stack
 ex:=fp
 fn:=fun _=>false
 calm:=X.calm
 pn:=[]
 xe:=fun _ _=>False
structure tV (X:Cx) (N':List Str) (js:List Nat) (sc:Scope):Prop where
 kind:sc.kind=.function
 lO:∀y∈sc.names,y.2≠.cell
 names:∀y∈sc.names,y.2=.local->sc.names.lookup y.1=some .local
 clos:closureFor sc X.env=pure (lV sc X.env)
 all:(sc.names.all fun y=>y.2 != .free || (X.env.cells.lookup y.1).isSome)=true
 len:N'.length=js.length+1
 cap:∀(i j:Nat),js[i]?=some j->N'[i+1]?=X.N[j]?
 Ej:∀y∈N'.tail,X.env.kindOf y=some .cell/\sc.names.lookup y=some .free
def fK (js:List Nat) (σ:St):St:=js.map fun j=>(σ[j]?).join
def m6 (js:List Nat) (wi:TI) (te:TE):TE:=fun σ H Q=>wi σ H fun J H1=>∀acc,H1 acc=none->∃W:Nat->Nat->List V->Hp->Prop,(∃m,W 0 m [] (upd H1 acc (.lst [])))/\∀i m ys H2,W i m ys H2 ->
 (J.stop i H2/\Q (.ref acc) H2)\/(J.go i H2/\∀x H3,J.Fe i H2 x H3->te (some x::fK js σ) H3 fun y H4=>H4 acc=some (.lst ys)/\ys.length<sizeLine/\∃m',m'<m/\W (i+1) m' (ys++[y]) (upd H4 acc (.lst (ys++[y]))))
def O8:Key->PyData
 | .inl i=>.int i
 | .inr x=>.str x
mutual
def At (H:Hp):PyData->V->Prop
 | .none,v=>v=.non
 | .bool b,v=>v=.bl b
 | .int i,v=>v=.int i
 | .str x,v=>v=.str x
 | .tuple ds,v=>∃a xs,v=.ref a/\H a=some (.tup xs)/\aq H ds xs
 | .list ds,v=>∃a xs,v=.ref a/\H a=some (.lst xs)/\aq H ds xs
 | .dict kvs,v=>∃a es,v=.ref a/\H a=some (.dK es)/\g_ H kvs es
def aq (H:Hp):List PyData->List V->Prop
 | [],xs=>xs=[]
 | d::ds,xs=>∃x r,xs=x::r/\At H d x/\aq H ds r
def g_ (H:Hp):List (PyData×PyData)->List (Key×V)->Prop
 | [],es=>es=[]
 | (k,d)::r,es=>∃q v t,es=(q,v)::t/\k=O8 q/\At H d v/\g_ H r t
end
mutual
theorem At.mono {H H':Hp} (m:aH H H'):∀(d:PyData) (v:V),At H d v->At H' d v
 | .none,_,h=>by unfold At at h ⊢; exact h
 | .bool _,_,h=>by unfold At at h ⊢; exact h
 | .int _,_,h=>by unfold At at h ⊢; exact h
 | .str _,_,h=>by unfold At at h ⊢; exact h
 | .tuple ds,v,h=>by
  unfold At at h ⊢;obtain⟨a,xs,e,h1,h2⟩:=h;exact⟨a,xs,e,m _ _ h1,aq.mono m ds xs h2⟩
 | .list ds,v,h=>by
  unfold At at h ⊢;obtain⟨a,xs,e,h1,h2⟩:=h;exact⟨a,xs,e,m _ _ h1,aq.mono m ds xs h2⟩
 | .dict kvs,v,h=>by
  unfold At at h ⊢;obtain⟨a,es,e,h1,h2⟩:=h;exact⟨a,es,e,m _ _ h1,g_.mono m kvs es h2⟩
theorem aq.mono {H H':Hp} (m:aH H H'):∀(ds:List PyData) (xs:List V),aq H ds xs->aq H' ds xs
 | [],_,h=>by unfold aq at h ⊢; exact h
 | d::ds,xs,h=>by
  unfold aq at h ⊢;obtain⟨x,r,e,h1,h2⟩:=h;exact⟨x,r,e,At.mono m d x h1,aq.mono m ds r h2⟩
theorem g_.mono {H H':Hp} (m:aH H H'):∀(kvs:List (PyData×PyData)) (es:List (Key×V)),g_ H kvs es->g_ H' kvs es
 | [],_,h=>by unfold g_ at h ⊢; exact h
 | (k,d)::r,es,h=>by
  unfold g_ at h ⊢;obtain⟨q,v,t,e,e',h1,h2⟩:=h;exact⟨q,v,t,e,e',At.mono m d v h1,g_.mono m r t h2⟩
end
theorem aq.length {H:Hp}:∀{ds:List PyData} {xs:List V},aq H ds xs->xs.length=ds.length
 | [],xs,h=>by unfold aq at h; rw[h]; rfl
 | d::ds,xs,h=>by
  unfold aq at h;obtain⟨x,r,e,_,h2⟩:=h;rw[e,fj,fj,aq.length h2]
theorem aq.get {H:Hp}:∀{ds:List PyData} {xs:List V} {i:Nat} {x:V},aq H ds xs->xs[i]?=some x->∃d,ds[i]?=some d/\At H d x
 | [],xs,i,x,h,e=>by unfold aq at h; rw[h] at e; simp at e
 | d::ds,xs,i,x,h,e=>by
  unfold aq at h;obtain⟨y,r,e1,h1,h2⟩:=h;subst e1;cases i with
  | zero=>simp at e; subst e; exact⟨d,rfl,h1⟩
  | succ i=>
   obtain⟨d',q1,q2⟩:=aq.get (i:=i) (x:=x) h2 (by simpa using e)
   exact⟨d',by simpa using q1,q2⟩
theorem aq.getD {H:Hp}:∀{ds:List PyData} {xs:List V} {i:Nat} {d:PyData},aq H ds xs->ds[i]?=some d->∃x,xs[i]?=some x/\At H d x
 | [],xs,i,d,h,e=>by simp at e
 | d'::ds,xs,i,d,h,e=>by
  unfold aq at h;obtain⟨y,r,e1,h1,h2⟩:=h;subst e1;cases i with
  | zero=>simp at e; subst e; exact⟨y,rfl,h1⟩
  | succ i=>
   obtain⟨x,q1,q2⟩:=aq.getD (i:=i) (d:=d) h2 (by simpa using e)
   exact⟨x,by simpa using q1,q2⟩
theorem aq.append {H:Hp}:∀{ds es:List PyData} {xs ys:List V},aq H ds xs->aq H es ys->aq H (ds++es) (xs++ys)
 | [],es,xs,ys,h,q=>by unfold aq at h; subst h; exact q
 | d::ds,es,xs,ys,h,q=>by
  unfold aq at h;obtain⟨x,r,e,h1,h2⟩:=h;subst e;show aq H (d::(ds++es)) (x::(r++ys));unfold aq;exact⟨x,r++ys,rfl,h1,aq.append h2 q⟩
theorem aq.take {H:Hp}:∀{ds:List PyData} {xs:List V} (n:Nat),aq H ds xs->aq H (ds.take n) (xs.take n)
 | ds,xs,0,h=>by simp[aq]
 | [],xs,n+1,h=>by unfold aq at h; subst h; simp[aq]
 | d::ds,xs,n+1,h=>by
  unfold aq at h;obtain⟨x,r,e,h1,h2⟩:=h;subst e;show aq H (d::ds.take n) (x::r.take n);unfold aq;exact⟨x,_,rfl,h1,aq.take n h2⟩
theorem aq.drop {H:Hp}:∀{ds:List PyData} {xs:List V} (n:Nat),aq H ds xs->aq H (ds.drop n) (xs.drop n)
 | ds,xs,0,h=>h
 | [],xs,n+1,h=>by unfold aq at h; subst h; simp[aq]
 | d::ds,xs,n+1,h=>by
  unfold aq at h;obtain⟨x,r,e,h1,h2⟩:=h;subst e;exact aq.drop n h2
theorem aq.nil {H:Hp}:aq H [] []:=by unfold aq; rfl
theorem aq.cons {H:Hp} {d:PyData} {ds:List PyData} {x:V} {xs:List V} (h1:At H d x) (h2:aq H ds xs):aq H (d::ds) (x::xs):=by
 unfold aq; exact⟨x,xs,rfl,h1,h2⟩
theorem At.tup {H:Hp} {a:Addr} {xs:List V} {ds:List PyData} (h:H a=some (.tup xs)) (q:aq H ds xs):At H (.tuple ds) (.ref a):=by
 unfold At; exact⟨a,xs,rfl,h,q⟩
theorem At.lst {H:Hp} {a:Addr} {xs:List V} {ds:List PyData} (h:H a=some (.lst xs)) (q:aq H ds xs):At H (.list ds) (.ref a):=by
 unfold At; exact⟨a,xs,rfl,h,q⟩
theorem At.int {H:Hp} (i:Int):At H (.int i) (.int i):=by unfold At; rfl
theorem At.str {H:Hp} (x:Str):At H (.str x) (.str x):=by unfold At; rfl
theorem At.bool {H:Hp} (b:Bool):At H (.bool b) (.bl b):=by unfold At; rfl
theorem At.non {H:Hp}:At H .none .non:=by unfold At; rfl
theorem aK {H:Hp} {p:Addr} (h:H p=none) (o:HO):aH H (upd H p o):=fun b u q=>by rw[aL (bf q h)]; exact q
def KY:PyData->String
 | .none=>"NoneType"
 | .bool _=>"bool"
 | .int _=>"int"
 | .str _=>"str"
 | .tuple _=>"tuple"
 | .list _=>"list"
 | .dict _=>"dict"
theorem At.ty {K:PySem.W.Frag} {H:Hp} {d:PyData} {v:V} (h:At H d v):lY K H v (.type (KY d)):=by
 cases d with
 | none=>unfold At at h; subst h; exact .non
 | bool b=>unfold At at h; subst h; exact .bl b
 | int i=>unfold At at h; subst h; exact .int i
 | str x=>unfold At at h; subst h; exact .str x
 | tuple ds=>unfold At at h; obtain⟨a,xs,e,h1,_⟩:=h; subst e; exact .tup h1
 | list ds=>unfold At at h; obtain⟨a,xs,e,h1,_⟩:=h; subst e; exact .lst h1
 | dict ds=>unfold At at h; obtain⟨a,xs,e,h1,_⟩:=h; subst e; exact .dK h1
def isInt:PyData->Bool
 | .int _=>true
 | .bool _=>true
 | _=>false
def isTup:PyData->Bool
 | .tuple _=>true
 | _=>false
def isBool:PyData->Bool
 | .bool _=>true
 | _=>false
def isStr:PyData->Bool
 | .str _=>true
 | _=>false
theorem GR (K:PySem.W.Frag) (d:PyData):PySem.W.kitOne K (.type (KY d)) (.type "int")=some (isInt d):=by cases d <;> kernel_rfl
theorem GQ (K:PySem.W.Frag) (d:PyData):PySem.W.kitOne K (.type (KY d)) (.type "tuple")=some (isTup d):=by cases d <;> kernel_rfl
theorem DQ (K:PySem.W.Frag) (d:PyData):PySem.W.kitOne K (.type (KY d)) (.type "bool")=some (isBool d):=by cases d <;> kernel_rfl
section
variable {X:Cx}
def Cv (T:String) (f:PyData->Bool):List V->Hp->VK->Prop:=fun vs H Q=>∃v d,vs=[v,.ty T]/\At H d v/\Q (.bl (f d)) H
theorem wN {T:String} {f:PyData->Bool} (hf:∀K d,PySem.W.kitOne K (.type (KY d)) (.type T)=some (f d)):cB X (.builtin "isinstance") (Cv T f):=by
 refine .mk ?_;intro pins s σ H vs us Q I r h;obtain⟨v,d,rfl,hv,q⟩:=h;obtain⟨u,t,rfl,ru,rt⟩:=r.two;cases(show t=Value.type T from rt);exact Aj I ru (hv.ty (K:=X.K)) (hf X.K d) fun tk=>⟨.bl (f d),H,I.tok tk,rfl,q⟩
theorem G3:cB X (.builtin "isinstance") (Cv "int" isInt):=wN GR
theorem mV:cB X (.builtin "isinstance") (Cv "tuple" isTup):=wN GQ
theorem DW:cB X (.builtin "isinstance") (Cv "bool" isBool):=wN DQ
theorem eZ:jm X (compareOp .IsNot) (fun x y H Q=>∃b,y=.bl b/\Q (.bl (!decide (x=.bl b))) H):=by
 refine .mk ?_;intro pins s σ H x y v u Q I rx ry h;obtain⟨b,rfl,q⟩:=h;cases(show u=Value.bool b from ry)
 have hp:plainIs v (.bool b)=true:=by
  cases x <;> first | (cases rx; rfl) | (obtain⟨t,rfl⟩:=rx; rfl)
 refine wpAny_isNot_plain hp (aU I q (lE (! ·) ?_));cases x with
 | bl c=>
  cases(show v=Value.bool c from rx);by_cases e:c=b
  ·subst e; simp
  ·rw[ji (fun z=>e (by injection z))]; exact(beq_eq_false_iff_ne.mpr (fun z=>e (by injection z))).symm
 | _=>first
  | (cases rx; rw[ji (fun z=>nomatch z)]; rfl)
  | (obtain⟨t,rfl⟩:=rx; rw[ji (fun z=>nomatch z)]; rfl)
theorem qX:∀{bs:List Bool} {us:List Value},Vals (bs.map V.bl) us->us=bs.map Value.bool
 | [],_,.nil=>rfl
 | b::bs,_,.cons r t=>by
  cases(show _=Value.bool b from r);rw[qX t]; rfl
theorem range_all (bs:List Bool):(List.range bs.length).all (fun i=>bs.getD i false)=bs.all id:=by
 rw[zL,iC,iC];constructor
 ·intro h b hb;obtain⟨i,hi,rfl⟩:=List.mem_iff_getElem.mp hb;have:=h i (zK.mpr hi);simpa[ym,hi] using this
 ·intro h i hi;have hi':=zK.mp hi;have:=h bs[i] (vN hi');simpa[ym,hi'] using this
theorem range_any (bs:List Bool):(List.range bs.length).any (fun i=>bs.getD i false)=bs.any id:=by
 rw[zL,List.any_eq_true,List.any_eq_true];constructor
 ·rintro⟨i,hi,h⟩;have hi':=zK.mp hi;exact⟨bs[i],vN hi',by simpa[ym,hi'] using h⟩
 ·rintro⟨b,hb,h⟩;obtain⟨i,hi,rfl⟩:=List.mem_iff_getElem.mp hb;exact⟨i,zK.mpr hi,by simpa[ym,hi] using h⟩
theorem e_ (hc:X.calm=true):cB X (.builtin "all") (fun vs H Q=>∃(p:Addr) (bs:List Bool),vs=[.ref p]/\H p=some (.lst (bs.map V.bl))/\Q (.bl (bs.all id)) H):=by
 refine .mk ?_;intro pins s σ H vs us Q I r h;obtain⟨p,bs,rfl,hp,q⟩:=h;obtain⟨u,rfl,ru⟩:=r.one;cases ru;obtain⟨z,its,n,rv,e⟩:=I.hok p _ hp;have e2:=qX rv;subst e2;have hl:s.heap.IsList p (bs.map Value.bool).toArray:=⟨_,e,rfl,n,rfl⟩;have lt:p<s.heap.objs.size:=gA e;refine call_all_walk (CQ hl ?_);refine⟨_,_,_,_,_,_,fun i=>bs.getD i false,rfl,Walks.list (A:=X.A.in1) (I.ok.hd hc) _ p (eF lt) _,⟨⟨_,gW _ rfl,rfl,rfl⟩,hl.push _⟩,fun i v s' Q' E' hv hq=>?_,fun h' tk hk=>?_⟩
 ·have hv':(bs.map Value.bool).toArray[i]?=some v:=hv
  have:v=.bool (bs.getD i false):=by
   simp only[Ga,gU] at hv';cases q:bs[i]? with
   | none=>rw[q] at hv'; simp at hv'
   | some b=>rw[q] at hv'; simp at hv'; simp[ym,q,<- hv']
  rw[this];exact nQ hq
 ·have e3:(List.range (bs.map Value.bool).toArray.size).all (fun i=>bs.getD i false)=bs.all id:=by
   rw[kO,jh]; exact range_all bs
  refine⟨.bl (bs.all id),H,I.kept (t':=tk) (fun b o eb=>?_),by rw[<- e3]; rfl,q⟩
  exact hk b o (by simpa using eF (gA eb)) (gF _ eb)
theorem Bb (hc:X.calm=true):cB X (.builtin "any") (fun vs H Q=>∃(p:Addr) (bs:List Bool),vs=[.ref p]/\H p=some (.lst (bs.map V.bl))/\Q (.bl (bs.any id)) H):=by
 refine .mk ?_;intro pins s σ H vs us Q I r h;obtain⟨p,bs,rfl,hp,q⟩:=h;obtain⟨u,rfl,ru⟩:=r.one;cases ru;obtain⟨z,its,n,rv,e⟩:=I.hok p _ hp;have e2:=qX rv;subst e2;have hl:s.heap.IsList p (bs.map Value.bool).toArray:=⟨_,e,rfl,n,rfl⟩;have lt:p<s.heap.objs.size:=gA e;refine call_any_walk (CQ hl ?_);refine⟨_,_,_,_,_,_,fun i=>bs.getD i false,rfl,Walks.list (A:=X.A.in1) (I.ok.hd hc) _ p (eF lt) _,⟨⟨_,gW _ rfl,rfl,rfl⟩,hl.push _⟩,fun i v s' Q' E' hv hq=>?_,fun h' tk hk=>?_⟩
 ·have hv':(bs.map Value.bool).toArray[i]?=some v:=hv
  have:v=.bool (bs.getD i false):=by
   simp only[Ga,gU] at hv';cases q:bs[i]? with
   | none=>rw[q] at hv'; simp at hv'
   | some b=>rw[q] at hv'; simp at hv'; simp[ym,q,<- hv']
  rw[this];exact nQ hq
 ·have e3:(List.range (bs.map Value.bool).toArray.size).any (fun i=>bs.getD i false)=bs.any id:=by
   rw[kO,jh]; exact range_any bs
  refine⟨.bl (bs.any id),H,I.kept (t':=tk) (fun b o eb=>?_),by rw[<- e3]; rfl,q⟩
  exact hk b o (by simpa using eF (gA eb)) (gF _ eb)
theorem uB:∀(ns:List Int),preSum (fun i=>ns.getD i 0) ns.length=ns.sum:=by
 have key:∀(ns:List Int) (k:Nat),k<=ns.length->preSum (fun i=>ns.getD i 0) k=(ns.take k).sum:=by
  intro ns k
  induction k with
  | zero=>intro _; rfl
  | succ k ih=>
   intro hk
   have e:ns.take (k+1)=ns.take k++[ns.getD k 0]:=by
    rw[List.take_succ,pB (by omega)]
    simp[ym,pB (show k<ns.length by omega)]
   show preSum _ k+ns.getD k 0=_;rw[ih (by omega),e,List.sum_append]
   simp
 intro ns;rw[key ns ns.length (a_ _),CN]
theorem yE {ns:List Int} {its:List Value} (r:Vals (ns.map V.int) its) {i:Nat} {v:Value} (h:its.toArray[i]?=some v):∃t,v=.int (ns.getD i 0) t:=by
 have h':its[i]?=some v:=by simpa using h
 have hi:i<its.length:=(lL.mp h').1;have hl:=r.length;rw[jh] at hl;obtain⟨u,hu,ru⟩:=r.get (i:=i) (x:=V.int (ns[i]'(by omega))) (by rw[gU,pB (by omega)]; rfl)
 rw[h'] at hu;cases hu;obtain⟨t,e⟩:=ru;exact⟨t,by rw[e,ym,pB (by omega)]; rfl⟩
theorem Az (hc:X.calm=true):cB X (.builtin "sum") (fun vs H Q=>∃(p:Addr) (ns:List Int),vs=[.ref p]/\(H p=some (.lst (ns.map V.int))\/H p=some (.tup (ns.map V.int)))/\Q (.int ns.sum) H):=by
 refine .mk ?_;intro pins s σ H vs us Q I r h;obtain⟨p,ns,rfl,hp,q⟩:=h;obtain⟨u,rfl,ru⟩:=r.one;cases ru
 have fin:∀{h':Heap} {tk:Nat} {t':Tok} {o:Obj},(∀b o',b∉[s.heap.objs.size]->(s.heap.push o).get? b=some o'->h'.get? b=some o')->EP X pins σ Q (.int (preSum (fun i=>ns.getD i 0) ns.length) t') { s with heap:=h',toks:=tk }:=fun {h' tk t' o} hk=>
  ⟨.int ns.sum,H,I.kept (t':=tk) (fun b o' eb=>hk b o' (by simpa using eF (gA eb)) (gF _ eb)),⟨t',by rw[uB]⟩,q⟩
 rcases hp with hp | hp
 ·obtain⟨z,its,n,rv,e⟩:=I.hok p _ hp;have hl:s.heap.IsList p its.toArray:=⟨_,e,rfl,n,rfl⟩;have lt:p<s.heap.objs.size:=gA e;have hlen:=rv.length;rw[jh] at hlen;refine call_sum_walkG (CQ hl ?_);refine⟨_,_,_,_,_,_,fun i=>ns.getD i 0,rfl,Walks.list (A:=X.A.in1) (I.ok.hd hc) _ p (eF lt) _,⟨⟨_,gW _ rfl,rfl,rfl⟩,hl.push _⟩,fun b hb=>?_,fun i v hv=>yE rv hv,fun h' tk t' hk=>?_⟩
  ·show b<(s.heap.push _).objs.size;rw[ux];rcases jE.mp hb with rfl | hb
   ·exact Nat.lt_succ_self _
   ·rw[lK.mp hb]; exact CP lt
  ·rw[kO,<- hlen]; exact fin hk
 ·obtain⟨z,its,rv,ht⟩:=I.hok p _ hp;have ht':s.heap.IsTuple p its.toArray:=ht;have lt:p<s.heap.objs.size:=by obtain⟨o,e,_⟩:=ht; exact gA e
  have hlen:=rv.length;rw[jh] at hlen;refine call_sum_walkG (wpAny_pyIter_tuple ht' ?_);refine⟨_,_,_,_,_,_,fun i=>ns.getD i 0,rfl,Walks.tuple (A:=X.A.in1) (I.ok.hd hc) _ p (eF lt) _,⟨⟨_,gW _ rfl,rfl,rfl⟩,?_⟩,fun b hb=>?_,fun i v hv=>yE rv hv,fun h' tk t' hk=>?_⟩
  ·obtain⟨o,e,c⟩:=ht';exact⟨o,gF _ e,c⟩
  ·show b<(s.heap.push _).objs.size;rw[ux];rcases jE.mp hb with rfl | hb
   ·exact Nat.lt_succ_self _
   ·rw[lK.mp hb]; exact CP lt
  ·rw[kO,<- hlen]; exact fin hk
theorem je:cB X (.type "int") (fun vs H Q=>∃(b:Bool),vs=[.bl b]/\Q (.int (if b then 1 else 0)) H):=by
 refine .mk ?_;intro pins s σ H vs us Q I r h;obtain⟨b,rfl,q⟩:=h;obtain⟨u,rfl,ru⟩:=r.one;cases(show u=Value.bool b from ru);exact call_int_bool ⟨.int (if b then 1 else 0),H,I.tok _,⟨_,rfl⟩,q⟩
end
mutual
theorem nP {P:Program} {w:World} {H:Hp} {h:Heap} (ok:gr P w H h):∀(d:PyData) (v:V) (u:Value),At H d v->RelV v u->d.hasDict=false->∃as,Reads h u d as
 | .none,v,u,a,r,_=>by unfold At at a; subst a; cases r; exact⟨_,.none⟩
 | .bool b,v,u,a,r,_=>by unfold At at a; subst a; cases r; exact⟨_,.bool b⟩
 | .int i,v,u,a,r,_=>by unfold At at a; subst a; obtain⟨t,rfl⟩:=r; exact⟨_,.int i t⟩
 | .str x,v,u,a,r,_=>by unfold At at a; subst a; obtain⟨t,rfl⟩:=r; exact⟨_,.str x t⟩
 | .tuple ds,v,u,a,r,nd=>by
  unfold At at a;obtain⟨p,xs,e,hp,ha⟩:=a;subst e;cases r;obtain⟨_,its,rv,o,e1,e2,n,e3⟩:=ok p _ hp;obtain⟨as,ra⟩:=lD ok ds xs its ha rv (by simpa[PyData.hasDict] using nd)
  exact⟨_,.tuple e1 e2 e3 (by simpa using ra)⟩
 | .list ds,v,u,a,r,nd=>by
  unfold At at a;obtain⟨p,xs,e,hp,ha⟩:=a;subst e;cases r;obtain⟨_,its,n,rv,e1⟩:=ok p _ hp;obtain⟨as,ra⟩:=lD ok ds xs its ha rv (by simpa[PyData.hasDict] using nd)
  exact⟨_,.list e1 rfl rfl (by simpa using ra)⟩
 | .dict kvs,v,u,a,r,nd=>by simp[PyData.hasDict] at nd
theorem lD {P:Program} {w:World} {H:Hp} {h:Heap} (ok:gr P w H h):∀(ds:List PyData) (xs:List V) (us:List Value),aq H ds xs->Vals xs us->PyData.hasDictAll ds=false->∃as,ReadsAll h us ds as
 | [],xs,us,a,r,_=>by unfold aq at a; subst a; cases r; exact⟨_,.nil⟩
 | d::ds,xs,us,a,r,nd=>by
  unfold aq at a;obtain⟨x,t,e,h1,h2⟩:=a;subst e;have QV:d.hasDict=false/\PyData.hasDictAll ds=false:=by simpa[PyData.hasDictAll] using nd
  cases r with
  | cons r1 r2=>
   obtain⟨as,q1⟩:=nP ok d x _ h1 r1 QV.1;obtain⟨bs,q2⟩:=lD ok ds t _ h2 r2 QV.2;exact⟨_,.cons q1 q2⟩
end
structure Ri (d:PyData):Prop where
 can:d.showable=true
 Vz:d.hasDict=false
 len:d.shown.length<=sizeLine
 dep:d.depth<=60
section
variable {X:Cx}
def Gi (mg:Str->Option Value) (x:Str) (i:Int):Prop:=∃t,mg x=some (.int i t)
theorem cH {x:Str} {i:Int} {pos:Pos} (h:Gi X.mg x i) (hg:Gl X x:=by rfl) (hd:(x==("__debug__" : Str))=false:=by decide):PE X (.Name x pos) (tC (.int i)):=by
 obtain⟨t,ht⟩:=h;exact cV hg ht ⟨t,rfl⟩ hd
structure Ct (P:Program) (w:World) (K:PySem.W.Frag) (mg:Str->Option Value) (base:Heap) (k:Nat) (x:Str) (ps:List Str) (sp:Sp) where
 f:Addr
 fd:FuncData
 G:bI P w K mg base gw k f fd ps sp
 kp:PySem.W.keepIn K (.ref f)=true
 b:Binds K fd ps []
 m:mg x=some (.ref f)
def Ct.mono {P:Program} {w:World} {K:PySem.W.Frag} {mg:Str->Option Value} {base:Heap} {j k:Nat} {x:Str} {ps:List Str} {sp:Sp} (c:Ct P w K mg base j x ps sp) (h:j<=k):Ct P w K mg base k x ps sp:={ c with G:=c.G.mono h }
theorem LK {k:Nat} {x:Str} {ps:List Str} {sp:Sp} {e:Expr} {es:List Expr} {t:TA} {p pos:Pos} (c:Ct X.prog X.w X.K X.mg X.base k x ps sp) (hr:dN k X.A) (ha:PA X (e::es) t) (hg:Gl X x:=by rfl)
  (hdb:(x==("__debug__" : Str))=false:=by decide) (he:starEach (e::es) X.env=(false,eval e X.env)::starEach es X.env:=by rfl) (hpl:(backTo pos (starEach es X.env)).any (·.1)=false:=by rfl) :
  PE X (.Call (.Name x p) (e::es) [] pos) (lZ sp [] E0 t):=Gp c.G hr hg c.m c.kp c.b .nil LQ ha hdb he hpl
def dM (f:PyData->Bool):Sp:=fun vs H Q _=>∃v d,vs=[v]/\At H d v/\∀H',aH H H'->Q (.bl (f d)) H'
def zu (f:PyData->PyData->Bool):Sp:=fun vs H Q _=>∃v d v' d',vs=[v,v']/\At H d v/\At H d' v'/\∀H',aH H H'->Q (.bl (f d d')) H'
def eU (f:PyData->Int->Bool):Sp:=fun vs H Q _=>∃v d i,vs=[v,.int i]/\At H d v/\∀H',aH H H'->Q (.bl (f d i)) H'
def jn (f:PyData->Int->Int->Bool):Sp:=fun vs H Q _=>∃v d i j,vs=[v,.int i,.int j]/\At H d v/\∀H',aH H H'->Q (.bl (f d i j)) H'
theorem dM.len {f:PyData->Bool} {ps:List Str} (h:ps.length=1):∀vs H Q E,dM f vs H Q E->vs.length=ps.length:=by rintro vs H Q E ⟨v,d,rfl,_⟩; exact h.symm
theorem zu.len {f:PyData->PyData->Bool} {ps:List Str} (h:ps.length=2):∀vs H Q E,zu f vs H Q E->vs.length=ps.length:=by rintro vs H Q E ⟨v,d,v',d',rfl,_⟩; exact h.symm
theorem eU.len {f:PyData->Int->Bool} {ps:List Str} (h:ps.length=2):∀vs H Q E,eU f vs H Q E->vs.length=ps.length:=by rintro vs H Q E ⟨v,d,i,rfl,_⟩; exact h.symm
theorem jn.len {f:PyData->Int->Int->Bool} {ps:List Str} (h:ps.length=3):∀vs H Q E,jn f vs H Q E->vs.length=ps.length:=by rintro vs H Q E ⟨v,d,i,j,rfl,_⟩; exact h.symm
theorem B1.of {f:PyData->Bool} {v:V} {d:PyData} {H:Hp} {Q:VK} {E:XK} (h:At H d v) (q:∀H',aH H H'->Q (.bl (f d)) H'):dM f ([v]++[]) H Q E:=⟨v,d,rfl,h,q⟩
theorem E_.of {f:PyData->Int->Bool} {v:V} {d:PyData} {i:Int} {H:Hp} {Q:VK} {E:XK} (h:At H d v) (q:∀H',aH H H'->Q (.bl (f d i)) H'):eU f ([v,.int i]++[]) H Q E:=⟨v,d,i,rfl,h,q⟩
theorem yS.of {f:PyData->Int->Int->Bool} {v:V} {d:PyData} {i j:Int} {H:Hp} {Q:VK} {E:XK} (h:At H d v) (q:∀H',aH H H'->Q (.bl (f d i j)) H'):jn f ([v,.int i,.int j]++[]) H Q E:=⟨v,d,i,j,rfl,h,q⟩
theorem B2.of {f:PyData->PyData->Bool} {v v':V} {d d':PyData} {H:Hp} {Q:VK} {E:XK} (h:At H d v) (h':At H d' v') (q:∀H',aH H H'->Q (.bl (f d d')) H'):zu f ([v,v']++[]) H Q E:=⟨v,d,v',d',rfl,h,h',q⟩
theorem uX {K:PySem.W.Frag} {a acc:Addr} {xs:List V} {ds:List PyData} {f:PyData->Bool} {te:TE} {cap:St} {H:Hp} {Q:VK} (hacc:H acc=none) (ha:H a=some (.tup xs)) (hd:aq H ds xs) (hz:ds.length<=sizeLine)
  (step:∀x d H',aH H H'->At H' d x->∀R:VK,(∀jg,aH H' jg->R (.bl (f d)) jg)->te (some x::cap) H' R)
  (fin:∀H',aH H H'->H' acc=some (.lst ((ds.map f).map V.bl))->Q (.ref acc) H') :
  ∃W:Nat->Nat->List V->Hp->Prop,(∃m,W 0 m [] (upd H acc (.lst [])))/\∀i m ys H2,W i m ys H2 ->
   ((M4 K a).stop i H2/\Q (.ref acc) H2)\/((M4 K a).go i H2/\∀x H3,(M4 K a).Fe i H2 x H3->te (some x::cap) H3 fun y H4=>H4 acc=some (.lst ys)/\ys.length<sizeLine/\∃m',m'<m/\W (i+1) m' (ys++[y]) (upd H4 acc (.lst (ys++[y])))):=by
 have hlen:=hd.length;refine⟨fun i m ys H2=>m=ds.length-i/\i<=ds.length/\ys=((ds.take i).map f).map V.bl/\aH H H2/\H2 acc=some (.lst ys),⟨_,rfl,fW _,rfl,aK hacc _,aA⟩,?_⟩;rintro i m ys H2 ⟨rfl,hi,rfl,sm,hy⟩;have ht:fH K H2 a xs:=fH.of (sm _ _ ha);by_cases hlt:i<ds.length
 ·refine .inr ⟨⟨xs,xs[i]'(by omega),ht,pB (by omega)⟩,fun x H3 y=>?_⟩
  obtain⟨e,y⟩:=y;subst e;obtain⟨d,e1,e2⟩:=hd.get (y xs ht);refine step x d _ sm (e2.mono sm) _ fun H4 s4=>⟨s4 _ _ hy,?_,ds.length-(i+1),by omega,rfl,hlt,?_,?_,aA⟩
  ·rw[jh,jh,vO]; omega
  ·rw[List.take_succ,e1]; simp
  ·refine fun b o q=>?_;have nb:b≠acc:=bf q hacc;rw[aL nb];exact s4 _ _ (sm _ _ q)
 ·have e:i=ds.length:=by omega
  subst e;refine .inl ⟨⟨xs,ht,by omega⟩,fin _ sm ?_⟩
  rw[hy,CN]
theorem oU {K:PySem.W.Frag} {js:List Nat} {a:Addr} {xs:List V} {ds:List PyData} {f:PyData->Bool} {tl te:TE} {σ:St} {H:Hp} {Q:VK} (hl:∀R:VK,R (.ref a) H->tl σ H R) (ha:H a=some (.tup xs)) (hd:aq H ds xs) (hz:ds.length<=sizeLine)
  (step:∀x d H',aH H H'->At H' d x->∀R:VK,(∀jg,aH H' jg->R (.bl (f d)) jg)->te (some x::fK js σ) H' R)
  (fin:∀acc H',aH H H'->H' acc=some (.lst ((ds.map f).map V.bl))->Q (.ref acc) H'):m6 js (JP K tl) te σ H Q:=
 hl _ ⟨a,rfl,⟨xs,fH.of ha⟩,fun acc hacc=>uX hacc ha hd hz step fun H' s' e=>fin acc H' s' e⟩
end
theorem Ft {v:V} {σ:St} {H:Hp} {Q:VK}:kY 0 (some v::σ) H Q=Q v H:=rfl
theorem Fq {i:Nat} {o:Option V} {σ:St} {H:Hp} {Q:VK}:kY (i+1) (o::σ) H Q=kY i σ H Q:=rfl
theorem Fx {v:V} {o:Option V} {σ:St}:(o::σ).set 0 (some v)=some v::σ:=rfl
theorem Fw {i:Nat} {v:V} {o:Option V} {σ:St}:(o::σ).set (i+1) (some v)=o::σ.set i (some v):=rfl
theorem Cp {t:TG} {u:Es} {v:V} {r:List V} {σ:St} {H:Hp} {Q:St->Hp->Prop}:oM t u (v::r) σ H Q=t v σ H fun σ' H'=>u r σ' H' Q:=rfl
theorem Fy {σ:St} {H:Hp} {Q:St->Hp->Prop}:Ar [] σ H Q=Q σ H:=rfl
theorem bu {b:Bool} {A B:Prop} (h1:b=true->A) (h2:b=false->B):if b=true then A else B:=by
 cases b
 ·rw[bB (by decide)]; exact h2 rfl
 ·rw[bj rfl]; exact h1 rfl
theorem fX {b:Bool} {A B:Prop} (h1:b=false->A) (h2:b=true->B):if(!b)=true then A else B:=by
 cases b
 ·rw[bj (by decide)]; exact h1 rfl
 ·rw[bB (by decide)]; exact h2 rfl
theorem Jf {i j:Int} {H:Hp} {Q:VK}:Jg (.int i) (.int j) H Q=Q (.bl (decide (i=j))) H:=by
 unfold Jg zy; simp
theorem Jc {i j:Int} {H:Hp} {Q:VK}:Lq (.int i) (.int j) H Q=Q (.bl (!decide (i=j))) H:=by
 unfold Lq zy; simp
theorem Je {i j:Str} {H:Hp} {Q:VK}:Jg (.str i) (.str j) H Q=Q (.bl (decide (i=j))) H:=by
 unfold Jg zy; simp
theorem Jb {i j:Str} {H:Hp} {Q:VK}:Lq (.str i) (.str j) H Q=Q (.bl (!decide (i=j))) H:=by
 unfold Lq zy; simp
theorem Fz {i:Int} {P:Int->Prop}:(∃k,[V.int i]=[V.int k]/\P k)=P i:=by
 simp
theorem FJ {i:Bool} {P:Bool->Prop}:(∃k,[V.bl i]=[V.bl k]/\P k)=P i:=by
 simp
theorem Cq {i j:Int} {P:Int->Int->Prop}:(∃a b,[V.int i,V.int j]=[V.int a,V.int b]/\P a b)=P i j:=by
 refine propext ⟨?_,fun h=>⟨i,j,rfl,h⟩⟩;rintro⟨a,b,e,h⟩;cases e;exact h
theorem Fv {b:Bool} {P:Bool->Prop}:(∃k,V.bl b=V.bl k/\P k)=P b:=by
 simp
theorem Jd {i:Int} {P:Int->Prop}:(∃k,V.int i=V.int k/\P k)=P i:=by
 simp
theorem Ln {i j:Int} {P:Int->Int->Prop}:(∃a b,V.int i=V.int a/\V.int j=V.int b/\P a b)=P i j:=by
 simp
theorem mD {α β:Type} {g:β->α->β} {f:α->β->Sem (ForInStep β)}:∀(l:List α) (c:β),(∀x∈l,∀c,f x c=pure (.yield (g c x)))->forIn l c f=(pure (l.foldl g c):Sem β)
 | [],c,_=>rfl
 | x::l,c,h=>by
  rw[List.forIn_cons,h x gj c,pure_bind];exact mD l (g c x) fun y hy=>h y (gY _ hy)
theorem gM {sc:Scope} {env:Env} (h:(sc.names.all fun y=>y.2 != .free || (env.cells.lookup y.1).isSome)=true):closureFor sc env=pure (lV sc env):=by
 unfold closureFor lV;dsimp only;rw[mD (g:=fC env) sc.names [] (fun y hy c=>?_)]
 ·rfl
 obtain⟨n,k⟩:=y;have a:=iC.mp h _ hy;dsimp only;unfold fC;dsimp only;cases hk:(k==NameKind.free) with
 | false=>simp
 | true=>
  have hk':k=.free:=beq_iff_eq.mp hk;subst hk';have a':(env.cells.lookup n).isSome=true:=by simpa using a
  obtain⟨c',hc'⟩:=vQ.mp a';simp[cellOf,hc']
theorem j_ {sc:Scope} (h:(sc.names.all fun y=>y.2 != .local || sc.names.lookup y.1==some .local)=true):∀y∈sc.names,y.2=.local->sc.names.lookup y.1=some .local:=fun y hy e=>by
 have a:=iC.mp h y hy;rw[e] at a;simpa using a
theorem tV.Km {X:Cx} {x:Str} {sc:Scope} (k:sc.kind=.function:=by rfl) (n:(sc.names.all fun y=>y.2 != .cell&&y.2 != .free)=true:=by decide +kernel) (l:(sc.names.all fun y=>y.2 != .local || sc.names.lookup y.1==some .local)=true:=by decide +kernel):tV X [x] [] sc:=by
 have n':∀y∈sc.names,y.2≠.cell/\y.2≠.free:=fun y hy=>by have:=iC.mp n y hy; simpa using this
 have al:(sc.names.all fun y=>y.2 != .free || (X.env.cells.lookup y.1).isSome)=true:=iC.mpr fun y hy=>by simp[(n' y hy).2]
 exact⟨k,fun y hy=>(n' y hy).1,j_ l,gM al,al,rfl,fun i j h=>by simp at h,fun y h=>by simp at h⟩
theorem tV.mk1 {X:Cx} {x y:Str} {sc:Scope} {j:Nat} (hj:X.N[j]?=some y:=by rfl) (k:sc.kind=.function:=by rfl) (n:(sc.names.all fun y=>y.2 != .cell)=true:=by decide +kernel)
  (l:(sc.names.all fun y=>y.2 != .local || sc.names.lookup y.1==some .local)=true:=by decide +kernel) (al:(sc.names.all fun y=>y.2 != .free || (X.env.cells.lookup y.1).isSome)=true:=by rfl)
  (k1:X.env.kindOf y=some .cell:=by rfl) (k2:sc.names.lookup y=some .free:=by rfl):tV X [x,y] [j] sc:=by
 have n':∀y∈sc.names,y.2≠.cell:=fun y hy=>by have:=iC.mp n y hy; simpa using this
 refine⟨k,n',j_ l,gM al,al,rfl,fun i j' h=>?_,fun z h=>?_⟩
 ·cases i with
  | zero=>simp at h; subst h; exact hj.symm
  | succ i=>simp at h
 ·have e:z=y:=by simpa using h
  subst e; exact⟨k1,k2⟩
theorem tV.mk2 {X:Cx} {x y z:Str} {sc:Scope} {j j2:Nat} (hj:X.N[j]?=some y:=by rfl) (hj2:X.N[j2]?=some z:=by rfl) (k:sc.kind=.function:=by rfl) (n:(sc.names.all fun y=>y.2 != .cell)=true:=by decide +kernel)
  (l:(sc.names.all fun y=>y.2 != .local || sc.names.lookup y.1==some .local)=true:=by decide +kernel) (al:(sc.names.all fun y=>y.2 != .free || (X.env.cells.lookup y.1).isSome)=true:=by rfl)
  (k1:X.env.kindOf y=some .cell:=by rfl) (k2:sc.names.lookup y=some .free:=by rfl) (k3:X.env.kindOf z=some .cell:=by rfl) (k4:sc.names.lookup z=some .free:=by rfl):tV X [x,y,z] [j,j2] sc:=by
 have n':∀y∈sc.names,y.2≠.cell:=fun y hy=>by have:=iC.mp n y hy; simpa using this
 refine⟨k,n',j_ l,gM al,al,rfl,fun i j' h=>?_,fun v h=>?_⟩
 ·match i,h with
  | 0,h=>simp at h; subst h; exact hj.symm
  | 1,h=>simp at h; subst h; exact hj2.symm
  | i+2,h=>simp at h
 ·have e:v=y\/v=z:=by simpa using h
  rcases e with e | e
  ·subst e; exact⟨k1,k2⟩
  ·subst e; exact⟨k3,k4⟩
def dU:Expr->Bool
 | .Starred _ _=>false
 | _=>true
theorem gb {env:Env} {e:Expr} {es:List Expr} (h:dU e=true):starEach (e::es) env=(false,eval e env)::starEach es env:=by
 cases e <;> first | rfl | exact absurd h (by simp[dU])
theorem gf {env:Env} {pos:Pos}:∀{es:List Expr},es.all dU=true->(backTo pos (starEach es env)).any (·.1)=false
 | [],_=>rfl
 | e::es,h=>by
  have h':dU e=true/\es.all dU=true:=by simpa using h
  rw[gb h'.1];show(false || (backTo pos (starEach es env)).any (·.1))=false;rw[gf h'.2]; rfl
section
variable {X:Cx} {x:Str} {p pos:Pos} {e:Expr} {es:List Expr} {te:TE} {t:TA} {id T:String} {r:List V->Hp->VK->Prop}
theorem aj (ha:PE X e te) (hr:PA X es t) (h:dU e=true:=by rfl):PA X (e::es) (fZ te t):=Gr ha hr (gb h)
theorem pf {k:Nat} {ps:List Str} {sp:Sp} (c:Ct X.prog X.w X.K X.mg X.base k x ps sp) (hr:dN k X.A) (ha:PA X (e::es) t) (hg:Gl X x:=by rfl) (hdb:(x==("__debug__" : Str))=false:=by decide) (h1:dU e=true:=by rfl) (h2:es.all dU=true:=by rfl) :
  PE X (.Call (.Name x p) (e::es) [] pos) (lZ sp [] E0 t):=LK c hr ha hg hdb (gb h1) (gf h2)
theorem pb (hc:cB X (.builtin id) r) (hm:X.mg x=none) (hv:bootBuiltins x=some (.builtin id)) (ha:PA X (e::es) t) (hg:Gl X x:=by rfl) (hn:x ≠ "__name__" := by decide) (hdb:(x==("__debug__" : Str))=false:=by decide)
  (h1:dU e=true:=by rfl) (h2:es.all dU=true:=by rfl):PE X (.Call (.Name x p) (e::es) [] pos) (IV r t):=Dq hc hg hm hv ha hn hdb (gb h1) (gf h2)
theorem pt (hc:cB X (.type T) r) (hm:X.mg x=none) (hv:bootBuiltins x=some (.type T)) (ha:PA X (e::es) t) (hg:Gl X x:=by rfl) (hn:x ≠ "__name__" := by decide) (hdb:(x==("__debug__" : Str))=false:=by decide)
  (h1:dU e=true:=by rfl) (h2:es.all dU=true:=by rfl):PE X (.Call (.Name x p) (e::es) [] pos) (IV r t):=zV hc hg hm hv ha hn hdb (gb h1) (gf h2)
end
end L2
namespace HT
open PySem PyProof.Rows
section
variable {prog:Program} {w:World} {A:Around} {E:Value->Shared->Prop} {s:Shared}
theorem kj {t sl:Addr} {items:Array Value} {vl vu:Value} {lo hi:Option Int} {Q:Value->Shared->Prop} (ht:IsTup s.heap t items) (hs:s.heap.IsSliceOf sl vl vu .none) (pl:IsPart vl lo) (pu:IsPart vu hi)
  (hw1:dw items.size 0 lo=0) (hw2:dw items.size items.size hi=items.size) (h:Q (.ref t) s):wpAny (model prog w) A (getItem (.ref t) (.ref sl)) Q E s:=by
 obtain⟨os,hos,hcs,hds⟩:=id hs;have Rv:s.TypeIs (.ref sl) "slice" := ⟨os,hos,hcs⟩;unfold getItem
 try with_reducible refine jX ?_
 first | refine bJ (fG ?_) | skip
 refine bJ (wpAny_sequenceKey ht.typeIs (by decide) ?_)
 refine bJ (wpAny_callSpecial?_slot (name:=Str.ofString "__getitem__") ht.typeIs PyProof.Rows.slot_tuple_getitem (wpAny_call_entry PyProof.Rows.slot_tuple_getitem ht.typeIs entry_tuple_getitem ?_ (args_tuple_getitem _ _)));show wpAny _ _ (Builtin.Tuple.tupleItemsOf (.ref t) >>= _) _ _ s;refine bJ (tupleItemsOf_ ht ?_);refine bJ (zJ Rv ?_);rw[bj (by decide)]
 refine bJ (gh hs pl pu ?_)
 have yes:(((dw items.size 0 lo:Nat):Int)==0&&(1:Int)==1&&(dw items.size items.size hi-dw items.size 0 lo)==items.size)=true:=by
  rw[hw1,hw2]; simp
 show wpAny _ _ (if(((dw items.size 0 lo:Nat):Int)==0&&(1:Int)==1&&(dw items.size items.size hi-dw items.size 0 lo)==items.size)=true then _ else _) _ _ s
 rw[bj yes]
 have ex:∀{R:Bool->Shared->Prop},R true s->wpAny (model prog w) A.in1 (Builtin.Tuple.tupleIsExact (.ref t)) R E s:=fun {R} q=>by
  unfold Builtin.Tuple.tupleIsExact;refine bJ (zJ ht.typeIs (fG ?_));rw[beq_self_eq_true];exact q
 refine bJ (ex ?_);rw[bj rfl];exact bJ (wpAny_rule (fG ⟨_,rfl,fG h⟩))
end
end HT
namespace L2
open PySem PySem.Spec PyProof.Rows
theorem aO:bootBuiltins "isinstance" = some (.builtin "isinstance"):=by decide +kernel
theorem jK:bootBuiltins "len" = some (.builtin "len"):=by decide +kernel
theorem lX:bootBuiltins "all" = some (.builtin "all"):=by decide +kernel
theorem J2:bootBuiltins "any" = some (.builtin "any"):=by decide +kernel
theorem JZ:bootBuiltins "sum" = some (.builtin "sum"):=by decide +kernel
theorem Ep:bootBuiltins "abs" = some (.builtin "abs"):=by decide +kernel
theorem J0:bootBuiltins "min" = some (.builtin "min"):=by decide +kernel
theorem Eo:bootBuiltins "max" = some (.builtin "max"):=by decide +kernel
theorem o9:bootBuiltins "int" = some (.type "int"):=by decide +kernel
theorem En:bootBuiltins "str" = some (.type "str"):=by decide +kernel
theorem G9:bootBuiltins "bool" = some (.type "bool"):=by decide +kernel
theorem G7:bootBuiltins "list" = some (.type "list"):=by decide +kernel
theorem dJ:bootBuiltins "tuple" = some (.type "tuple"):=by decide +kernel
theorem G8:bootBuiltins "dict" = some (.type "dict"):=by decide +kernel
theorem tK:bootBuiltins "enumerate" = some (.type "enumerate"):=by decide +kernel
section
variable {X:Cx}
theorem pty {x:Str} {T:String} {pos:Pos} (hg:Gl X x) (hm:X.mg x=none) (hv:bootBuiltins x=some (.type T)) (hn:x ≠ "__name__" := by decide) (hd:(x==("__debug__" : Str))=false:=by decide):PE X (.Name x pos) (tC (.ty T)):=
 Gq (v:=.ty T) hg hm hv rfl hn hd
theorem Ks.of {T:String} {g:PyData->Bool} {v:V} {d:PyData} {H:Hp} {Q:VK} (h:At H d v) (q:Q (.bl (g d)) H):Cv T g [v,.ty T] H Q:=⟨v,d,rfl,h,q⟩
def GT (K:PySem.W.Frag) (mg:Str->Option Value) (x:Str) (W:List V):Prop:=∃a,mg x=some (.ref a)/\∀H,fH K H a W
def Rx (K:PySem.W.Frag) (W:List V):TE:=fun _ H Q=>∀a,(∀H',fH K H' a W)->Q (.ref a) H
theorem Dj {K:PySem.W.Frag} {x:Str} {W:List V} {pos:Pos} (hK:X.K=K) (h:GT K X.mg x W) (hg:Gl X x:=by rfl) (hd:(x==("__debug__" : Str))=false:=by decide):PE X (.Name x pos) (Rx K W):=by
 obtain⟨a,ha,hs⟩:=h;refine .mk ?_;intro pins s σ H Q I q;exact cV (v:=.ref a) hg ha rfl hd pins s σ H Q I (q a hs)
def Ou (K:PySem.W.Frag):List V->Hp->VK->Prop:=fun vs H Q=>∃(p:Addr) (ys:List V),vs=[.ref p]/\(fJ K H p ys\/fH K H p ys)/\Q (.int ys.length) H
theorem dY {K:PySem.W.Frag} (hK:X.K=K):cB X (.builtin "len") (Ou K):=by
 subst hK;exact sW
def Cu:V->Option Int->Option Int->Hp->VK->Prop:=fun x lo hi H Q=>∃(a:Addr) (xs:List V),x=.ref a/\H a=some (.tup xs)/\∀p H',aH H H'->H' p=some (.tup (jJ xs lo hi))->Q (.ref p) H'
theorem mQ:Kq X Cu:=by
 refine .mk ?_;intro pins s σ H x v vl vu lo hi sl Q I rx hs pl pu h;obtain⟨a,xs,e,hx,q⟩:=h;by_cases hw:HT.dw xs.length 0 lo=0/\HT.dw xs.length xs.length hi=xs.length
 ·subst e;cases rx;obtain⟨its,r,ht,hz⟩:=I.tuple (fH.of (K:=X.K) hx);have hlen:its.toArray.size=xs.length:=by rw[kO]; exact r.length.symm
  refine⟨"tuple",_,PyProof.Rows.slot_tuple_getitem.lookup,ht.typeIs,?_⟩;refine HT.kj ht hs pl pu (by rw[hlen]; exact hw.1) (by rw[hlen]; exact hw.2) ⟨.ref a,H,I,rfl,q a H (aH.refl H) ?_⟩
  rw[hx];unfold jJ;rw[hw.1,hw.2,List.drop_zero,Nat.sub_zero,CN]
 ·exact IW pins s σ H x v vl vu lo hi sl Q I rx hs pl pu ⟨a,xs,e,fH.of hx,hw,fun p hp=>q p _ (aK hp _) aA⟩
def ur:R2:=fun x y H Q=>∃(a b:Addr) (xs ys:List V),x=.ref a/\y=.ref b/\H a=some (.tup xs)/\H b=some (.tup ys)/\xs.length+ys.length<=sizeLine/\∀p H',aH H H'->H' p=some (.tup (xs++ys))->Q (.ref p) H'
theorem j7:jm X (binaryOp .Add) ur:=by
 refine .mk ?_;intro pins s σ H x y v u Q I rx ry h;obtain⟨a,b,xs,ys,e1,e2,ha,hb,hz,q⟩:=h;by_cases hx:xs=[]
 ·subst hx e1 e2;cases rx;cases ry;obtain⟨its,r1,p1,_⟩:=I.tuple (fH.of (K:=X.K) ha);obtain⟨its2,r2,p2,_⟩:=I.tuple (fH.of (K:=X.K) hb);cases r1;obtain⟨⟨cls,dd,data,sl⟩,ho,hc,n,hd⟩:=id p1;obtain⟨⟨cls2,dd2,data2,sl2⟩,ho2,hc2,n2,hd2⟩:=id p2;simp only at hc hd hc2 hd2;subst hc hd hc2 hd2;exact concat_meets ⟨_,ho,rfl⟩ ⟨_,ho2,rfl⟩ noFill_tuple_add seq_tuple_add PySem.F.slot_tuple_add PySem.F.entry_tuple_add (PySem.F.args_tuple_add_2 _ _) (tuple_addW0 a b _ _ n n2 dd dd2 sl sl2 (by rfl)) ⟨ho,ho2,⟨.ref b,H,I,rfl,q b H (aH.refl H) hb⟩⟩
 ·refine Gv pins s σ H x y v u Q I rx ry ⟨a,b,xs,ys,e1,e2,fH.of ha,fH.of hb,hx,hz,fun z=>?_,fun _ p hp=>q p _ (aK hp _) aA⟩;subst z;exact q a H (aH.refl H) (by rw[ha,Cz])
def zE:R2:=fun x y H Q=>∃(p:Addr) (xs:List V) (i:Int) (v:V),x=.ref p/\y=.int i/\(H p=some (.lst xs)\/H p=some (.tup xs))/\Bf xs i=some v/\Q v H
theorem bT:EY X zE:=by
 have h:=(yz (X:=X)).or JM;refine .mk ?_;intro a b pins s σ H x y v u Q I rx ry q;obtain⟨p,xs,i,z,e1,e2,hp,ha,q⟩:=q;intro hs;refine h a b pins s σ H x y v u Q I rx ry ?_ hs;rcases hp with hp | hp
 ·exact .inl ⟨p,xs,i,z,e1,e2,fJ.of hp,ha,q⟩
 ·exact .inr ⟨p,xs,i,z,e1,e2,fH.of hp,ha,q⟩
theorem Ix.tup {a:Addr} {xs:List V} {i:Int} {v:V} {H:Hp} {Q:VK} (h:H a=some (.tup xs)) (e:Bf xs i=some v) (q:Q v H):zE (.ref a) (.int i) H Q:=⟨a,xs,i,v,rfl,rfl,.inr h,e,q⟩
theorem Ix.lst {a:Addr} {xs:List V} {i:Int} {v:V} {H:Hp} {Q:VK} (h:H a=some (.lst xs)) (e:Bf xs i=some v) (q:Q v H):zE (.ref a) (.int i) H Q:=⟨a,xs,i,v,rfl,rfl,.inl h,e,q⟩
theorem Eh {js:List Nat} {ta:TA} {te:TE} {σ:St} {H:Hp} {Q:VK} {n:Nat} (hl:∀R:List V->Hp->Prop,R [.int n] H->ta σ H R) (hn:n<=1000000)
  (h:∀acc,H acc=none->∃Pv:Nat->List V->Hp->Prop,Pv 0 [] (upd H acc (.lst [])) /\
   (∀i ys H',i<n->Pv i ys H'->te (some (.int (0+(i:Nat)))::fK js σ) H' fun y jg=>jg acc=some (.lst ys)/\ys.length<sizeLine/\Pv (i+1) (ys++[y]) (upd jg acc (.lst (ys++[y])))) /\
   ∀ys H',Pv n ys H'->Q (.ref acc) H'):m6 js (uR ta) te σ H Q:=by
 refine hl _ ⟨n,rfl,by omega,by omega,fun acc hacc=>?_⟩
 obtain⟨Pv,h0,hs,hd⟩:=h acc hacc;have en:((n:Int)).toNat=n:=rA n;rw[en];refine⟨fun i m ys H'=>m=n-i/\i<=n/\Pv i ys H',⟨n,rfl,fW _,h0⟩,?_⟩;rintro i m ys H2 ⟨rfl,hi,p⟩;by_cases hlt:i<n
 ·refine .inr ⟨hlt,fun x H3 y=>?_⟩;obtain⟨e,y⟩:=y;subst e y;have Hr:=hs i ys _ hlt p
  have fe:(fun(y:V) (jg:Hp)=>jg acc=some (.lst ys)/\ys.length<sizeLine/\Pv (i+1) (ys++[y]) (upd jg acc (.lst (ys++[y]))))=fun y H4=>H4 acc=some (.lst ys)/\ys.length<sizeLine/\∃m',m'<n-i/\(m'=n-(i+1)/\i+1<=n/\Pv (i+1) (ys++[y]) (upd H4 acc (.lst (ys++[y])))):=by
   funext y jg
   refine propext ⟨fun⟨a,b,c⟩=>⟨a,b,_,by omega,rfl,hlt,c⟩,fun⟨a,b,m',_,_,_,c⟩=>⟨a,b,c⟩⟩
  rw[fe] at Hr;exact Hr
 ·have e:i=n:=by omega
  subst e;exact .inl ⟨a_ _,hd ys _ p⟩
theorem gn:cB X (.type "tuple") (fun vs H Q=>∃(p:Addr) (ys:List V),vs=[.ref p]/\H p=some (.lst ys)/\∀l,H l=none->Q (.ref l) (upd H l (.tup ys))):=by
 refine .mk ?_;intro pins s σ H vs us Q I r h;obtain⟨p,ys,e,hp,q⟩:=h;exact pF pins s σ H vs us Q I r ⟨p,ys,e,.inl ⟨fJ.of hp,q⟩⟩
theorem Mw {ta:TA} {g:TG} {tb:TS} {D:Ends} {σ:St} {H:Hp} {n:Nat} (hl:∀R:List V->Hp->Prop,R [.int n] H->ta σ H R) (hn:n<=1000000) (Pv:Nat->St->Hp->Prop) (h0:Pv 0 σ H)
  (hs:∀i σ H,i<n->Pv i σ H->g (.int (0+(i:Nat))) σ H fun σ2 H2=>tb { D with nx:=Pv (i+1),ct:=Pv (i+1),bk:=D.nx } σ2 H2) (hd:∀σ H,Pv n σ H->D.nx σ H):Fl (uR ta) g tb D σ H:=by
 refine hl _ ⟨n,rfl,by omega,by omega,?_⟩
 rw[rA];exact qy Pv h0 hs hd
def x_ (t:TA):TE:=fun σ H Q=>t σ H fun xs H1=>xs.length<=sizeLine/\∀p H',H1 p=none->aH H1 H'->H' p=some (.lst xs)->Q (.ref p) H'
def Ht (t:TA):TE:=fun σ H Q=>t σ H fun xs H1=>xs.length<=sizeLine/\∀p H',H1 p=none->aH H1 H'->H' p=some (.tup xs)->Q (.ref p) H'
theorem di {es:List Expr} {t:TA} {pos:Pos} (h:PA X es t):PE X (.List es pos) (x_ t):=by
 refine .mk ?_;intro pins s σ H Q I hq;refine wpAny_List_spliced (cu (h pos pins s σ H _ I hq) fun us s1 ⟨xs,H1,I1,r,z,q⟩=>⟨by rw[<- r.length]; exact z,?_⟩)
 have fr:H1 s1.heap.objs.size=none:=I1.hok.fresh (a_ _);exact⟨.ref s1.heap.objs.size,upd H1 s1.heap.objs.size (.lst xs),I1.laid (t':=s1.toks) (fun b u e=>gF _ e) (a_ _) ⟨z,us,0,r,gW _ rfl⟩,rfl,q _ _ fr (aK fr _) aA⟩
theorem dh {es:List Expr} {t:TA} {x1} {pos:Pos} (h:PA X es t):PE X (.Tuple es x1 pos) (Ht t):=by
 refine .mk ?_;intro pins s σ H Q I hq;refine wpAny_Tuple_spliced (cu (h pos pins s σ H _ I hq) fun us s1 ⟨xs,H1,I1,r,z,q⟩=>⟨by rw[<- r.length]; exact z,?_⟩)
 have fr:H1 s1.heap.objs.size=none:=I1.hok.fresh (a_ _);exact⟨.ref s1.heap.objs.size,upd H1 s1.heap.objs.size (.tup xs),I1.laid (t':=s1.toks) (fun b u e=>gF _ e) (a_ _) ⟨z,us,r,⟨_,gW _ rfl,rfl,_,rfl⟩⟩,rfl,q _ _ fr (aK fr _) aA⟩
theorem JW {K:PySem.W.Frag} {js:List Nat} {a:Addr} {xs:List V} {ds:List PyData} {g:PyData->Bool} {tl te:TE} {σ:St} {H:Hp} {Q:VK} (hl:∀R:VK,R (.ref a) H->tl σ H R) (ha:H a=some (.lst xs)) (hd:aq H ds xs) (hz:ds.length<=sizeLine)
  (step:∀x d H',aH H H'->At H' d x->∀R:VK,(∀jg,aH H' jg->R (.bl (g d)) jg)->te (some x::fK js σ) H' R)
  (fin:∀acc H',aH H H'->H' acc=some (.lst ((ds.map g).map V.bl))->Q (.ref acc) H'):m6 js (DX K tl) te σ H Q:=by
 refine hl _ ⟨a,rfl,⟨xs,fJ.of ha⟩,fun acc hacc=>?_⟩;have hlen:=hd.length;refine⟨fun i m ys H2=>m=ds.length-i/\i<=ds.length/\ys=((ds.take i).map g).map V.bl/\aH H H2/\H2 acc=some (.lst ys),⟨_,rfl,fW _,rfl,aK hacc _,aA⟩,?_⟩;rintro i m ys H2 ⟨rfl,hi,rfl,sm,hy⟩;have ht:fJ K H2 a xs:=fJ.of (sm _ _ ha);by_cases hlt:i<ds.length
 ·refine .inr ⟨⟨xs,xs[i]'(by omega),ht,pB (by omega)⟩,fun x H3 y=>?_⟩
  obtain⟨e,y⟩:=y;subst e;obtain⟨d,e1,e2⟩:=hd.get (y xs ht);refine step x d _ sm (e2.mono sm) _ fun H4 s4=>⟨s4 _ _ hy,?_,ds.length-(i+1),by omega,rfl,hlt,?_,?_,aA⟩
  ·rw[jh,jh,vO]; omega
  ·rw[List.take_succ,e1]; simp
  ·refine fun b o q=>?_;have nb:b≠acc:=bf q hacc;rw[aL nb];exact s4 _ _ (sm _ _ q)
 ·have e:i=ds.length:=by omega
  subst e;refine .inl ⟨⟨xs,ht,by omega⟩,fin _ _ sm ?_⟩
  rw[hy,CN]
def hid (a:Addr) (H:Hp):Hp:=fun b=>if b=a then none else H b
theorem bx {a b:Addr} {H:Hp} (h:b≠a):hid a H b=H b:=bB h
theorem iK {a:Addr} {H:Hp}:hid a H a=none:=bj rfl
theorem dg {a b:Addr} {H:Hp} {o:HO} (h:hid a H b=some o):b≠a/\H b=some o:=by
 by_cases e:b=a
 ·subst e; rw[iK] at h; cases h
 ·exact⟨e,by rw[bx e] at h; exact h⟩
theorem mX {a:Addr} {H:Hp} {o:HO}:hid a (upd H a o)=hid a H:=by
 funext b
 by_cases e:b=a
 ·subst e; rw[iK,iK]
 ·rw[bx e,bx e,aL e]
theorem bM {a p:Addr} {H:Hp} {o:HO} (h:p≠a):hid a (upd H p o)=upd (hid a H) p o:=by
 funext b
 by_cases e:b=a
 ·subst e; rw[iK,aL (Ne.symm h),iK]
 ·rw[bx e];by_cases e':b=p
  ·subst e'; rw[aA,aA]
  ·rw[aL e',aL e',bx e]
theorem cW {a:Addr} {H:Hp}:aH (hid a H) H:=fun b o h=>(dg h).2
def SX (a:Addr) (H H':Hp):Prop:=aH (hid a H) (hid a H')
theorem SX.refl (a:Addr) (H:Hp):SX a H H:=aH.refl _
theorem SX.trans {a:Addr} {H H1 H2:Hp} (x:SX a H H1) (y:SX a H1 H2):SX a H H2:=aH.trans x y
theorem SX.of {a:Addr} {H H':Hp} (s:aH H H'):SX a H H':=fun b o h=>by
 obtain⟨n,e⟩:=dg h;rw[bx n]; exact s _ _ e
theorem SX.upd {a:Addr} {H:Hp} {o:HO}:SX a H (upd H a o):=by unfold SX; rw[mX]; exact aH.refl _
theorem SX.get {a b:Addr} {H H':Hp} {o:HO} (s:SX a H H') (n:b≠a) (h:H b=some o):H' b=some o:=by
 have:=s b o (by rw[bx n]; exact h)
 exact(dg this).2
def Tp (H:Hp) (a:Addr) (n:Nat):Prop:=∃x y z:Int,H a=some (.lst [.int x,.int y,.int z])/\0<=x/\0<=y/\y<4611686018427387904/\0<=z/\z<=n
theorem Tp.mono {H:Hp} {a:Addr} {n m:Nat} (h:Tp H a n) (l:n<=m):Tp H a m:=by
 obtain⟨x,y,z,e,h1,h2,h3,h4,h5⟩:=h;exact⟨x,y,z,e,h1,h2,h3,h4,by omega⟩
theorem Tp.same {H H':Hp} {a:Addr} {n:Nat} (h:Tp H a n) (s:aH H H'):Tp H' a n:=by
 obtain⟨x,y,z,e,r⟩:=h;exact⟨x,y,z,s _ _ e,r⟩
theorem Tp.ne {H:Hp} {a b:Addr} {n:Nat} (h:Tp H a n) (e:H b=none):b≠a:=by
 obtain⟨x,y,z,q,_⟩:=h;intro z; subst z; rw[e] at q; cases q
theorem Tp.neT {H:Hp} {a b:Addr} {n:Nat} {xs:List V} (h:Tp H a n) (e:H b=some (.tup xs)):b≠a:=by
 obtain⟨x,y,z,q,_⟩:=h;intro z; subst z; rw[e] at q; cases q
theorem aH.hid {a:Addr} {H H':Hp} (s:aH H H'):aH (L2.hid a H) (L2.hid a H'):=fun b o h=>by
 obtain⟨n,e⟩:=dg h;rw[bx n]; exact s _ _ e
theorem SX.dD {a p:Addr} {H H':Hp} {o:HO} (s:SX a H H') (hp:H p=none) (pa:p≠a):SX a H (L2.upd H' p o):=fun b u h=>by
 obtain⟨n,e⟩:=dg h;rw[bM pa,aL (bf e hp)];exact s b u h
theorem Tp.dD {H:Hp} {a p:Addr} {n:Nat} {o:HO} (t:Tp H a n) (pa:p≠a):Tp (L2.upd H p o) a n:=by
 obtain⟨x,y,z,e,r⟩:=t;exact⟨x,y,z,by rw[aL (Ne.symm pa)]; exact e,r⟩
def Ez (K:PySem.W.Frag) (H:Hp) (p:Addr) (xs:List V):Prop:=(∃o,H p=some (.vq o (.lst xs))) \/
 ∃(o:Obj) (its:Array Value) (n:Nat),K.lookup p=some o/\o.cls=.type "list" /\ o.dict=none/\o.data=.seq its n/\its.size<=sizeLine/\Vals xs its.toList
theorem Ez.sq {K:PySem.W.Frag} {H:Hp} {p:Addr} {xs:List V} (h:Ez K H p xs):fJ K H p xs:=by
 rcases h with⟨o,h⟩ | h
 ·exact .inl (.inr ⟨o,h⟩)
 ·exact .inr h
theorem Ez.of {K:PySem.W.Frag} {H:Hp} {p:Addr} {xs:List V} (h:fJ K H p xs) (o:Only H):Ez K H p xs:=by
 rcases h with(h | h) | h
 ·rcases o p with e | ⟨ob,ys,e⟩
  ·rw[e] at h; cases h
  ·rw[e] at h; cases h
 ·exact .inl h
 ·exact .inr h
theorem Ez.same {K:PySem.W.Frag} {H H':Hp} {p:Addr} {xs:List V} (h:Ez K H p xs) (s:aH H H'):Ez K H' p xs:=by
 rcases h with⟨o,h⟩ | h
 ·exact .inl ⟨o,s _ _ h⟩
 ·exact .inr h
end
mutual
def fine (b:Nat):PyData->Bool
 | .none=>true
 | .bool _=>true
 | .int i=>decide (i.natAbs<=b)
 | .str x=>decide (x.length<=40)&&x.cps.toList.all fun c=>decide (c<4294967296)
 | .tuple ds=>cN b ds
 | .list ds=>cN b ds
 | .dict _=>false
def cN (b:Nat):List PyData->Bool
 | []=>true
 | d::ds=>fine b d&&cN b ds
end
mutual
def DN:PyData->Nat
 | .tuple ds=>bF ds+3
 | .list ds=>bF ds+3
 | .dict _=>500
 | .none=>500
 | .bool _=>500
 | .int _=>500
 | .str _=>500
def bF:List PyData->Nat
 | []=>0
 | d::ds=>DN d+2+bF ds
end
theorem iQ {b:Nat}:∀{ds:List PyData},cN b ds=true↔∀d∈ds,fine b d=true
 | []=>by simp[cN]
 | d::ds=>by
  have ih:=iQ (b:=b) (ds:=ds);simp only[cN,lG,ih,jE,forall_eq_or_imp]
theorem gK {k:Nat}:∀{ds:List PyData},PyData.depthAll ds<=k↔∀d∈ds,d.depth<=k
 | []=>by simp[PyData.depthAll]
 | d::ds=>by
  have ih:=gK (k:=k) (ds:=ds);simp only[PyData.depthAll,jE,forall_eq_or_imp,<- ih];omega
theorem fB:∀(ds es:List PyData),bF (ds++es)=bF ds+bF es
 | [],es=>by simp[bF]
 | d::ds,es=>by simp only[List.cons_append,bF,fB ds es]; omega
mutual
theorem jd {b b':Nat} (h:b<=b'):∀d:PyData,fine b d=true->fine b' d=true
 | .none,_=>by simp[fine]
 | .bool _,_=>by simp[fine]
 | .int i,e=>by
  have:=jj (show decide (i.natAbs<=b)=true from by simpa[fine] using e)
  simp only[fine]; exact eV (by omega)
 | .str x,e=>by simpa[fine] using e
 | .tuple ds,e=>by simp only[fine] at e ⊢; exact gJ h ds e
 | .list ds,e=>by simp only[fine] at e ⊢; exact gJ h ds e
 | .dict _,e=>by simp[fine] at e
theorem gJ {b b':Nat} (h:b<=b'):∀ds:List PyData,cN b ds=true->cN b' ds=true
 | [],_=>rfl
 | d::ds,e=>by
  simp only[cN,lG] at e ⊢;exact⟨jd h d e.1,gJ h ds e.2⟩
end
mutual
theorem oN {b:Nat} (hb:b<10 ^ 60):∀d:PyData,fine b d=true->d.showable=true/\d.hasDict=false/\d.shown.length<=DN d
 | .none,_=>⟨rfl,rfl,by decide +kernel⟩
 | .bool c,_=>⟨rfl,rfl,by cases c <;> decide +kernel⟩
 | .int i,e=>by
  have h1:=jj (show decide (i.natAbs<=b)=true from by simpa[fine] using e)
  have h2:i.natAbs<10 ^ 60:=Nat.lt_of_le_of_lt h1 hb;refine⟨?_,rfl,?_⟩
  ·show decide (i.natAbs.log2<1920)=true;refine eV (log2_small (Nat.lt_trans h2 ?_));decide +kernel
  ·have:=int_text_length_le10 (k:=60) (by decide) h2
   show(Str.ofString (toString i)).length<=500;rw[PySem.ofString_length]; omega
 | .str x,e=>by
  have e':(decide (x.length<=40)&&x.cps.toList.all fun c=>decide (c<4294967296))=true:=by simpa[fine] using e
  rw[lG] at e';have h1:=jj e'.1;have h2:=StrLaws.reprText_len x (fun c hc=>by have:=iC.mp e'.2 c hc; have:=jj this; omega)
  refine⟨rfl,rfl,?_⟩;show(reprText x).length<=500;omega
 | .tuple ds,e=>by
  have e':cN b ds=true:=by simpa[fine] using e
  obtain⟨h1,h2,h3⟩:=fY hb ds e';refine⟨by simpa[PyData.showable] using h1,by simpa[PyData.hasDict] using h2,?_⟩
  have q:=tupleText_len_le (PyData.shownAll ds);show(tupleText (PyData.shownAll ds)).length<=bF ds+3;omega
 | .list ds,e=>by
  have e':cN b ds=true:=by simpa[fine] using e
  obtain⟨h1,h2,h3⟩:=fY hb ds e';refine⟨by simpa[PyData.showable] using h1,by simpa[PyData.hasDict] using h2,?_⟩
  have q:=listText_len_le (PyData.shownAll ds);show(listText (PyData.shownAll ds)).length<=bF ds+3;omega
 | .dict _,e=>by simp[fine] at e
theorem fY {b:Nat} (hb:b<10 ^ 60):∀ds:List PyData,cN b ds=true->PyData.showableAll ds=true/\PyData.hasDictAll ds=false/\((PyData.shownAll ds).map (·.length)).sum+2*(PyData.shownAll ds).length<=bF ds
 | [],_=>⟨rfl,rfl,by decide⟩
 | d::ds,e=>by
  have e':fine b d=true/\cN b ds=true:=by simpa[cN] using e
  obtain⟨h1,h2,h3⟩:=oN hb d e'.1;obtain⟨g1,g2,g3⟩:=fY hb ds e'.2;refine⟨by simp[PyData.showableAll,h1,g1],by simp[PyData.hasDictAll,h2,g2],?_⟩
  simp only[PyData.shownAll,gR,uv,fj,bF];omega
end
structure fL (b D M:Nat) (d:PyData):Prop where
 f:fine b d=true
 dp:d.depth<=D
 m:DN d<=M
theorem fL.mono {b b' D D' M M':Nat} {d:PyData} (h:fL b D M d) (h1:b<=b') (h2:D<=D') (h3:M<=M'):fL b' D' M' d:=⟨jd h1 d h.f,dC h.dp h2,dC h.m h3⟩
structure aC (b D M:Nat) (ds:List PyData):Prop where
 f:∀d∈ds,fine b d=true
 dp:∀d∈ds,d.depth<=D
 m:bF ds<=M
theorem aC.tup {b D M:Nat} {ds:List PyData} (h:aC b D M ds):fL b (D+1) (M+3) (.tuple ds):=
 ⟨by simp only[fine]; exact iQ.mpr h.f,by simp only[PyData.depth]; have:=gK.mpr h.dp; omega,by simp only[DN]; have:=h.m; omega⟩
theorem fL.parts {b D M:Nat} {ds:List PyData} (h:fL b D M (.tuple ds)):aC b (D-1) (M-3) ds/\1<=D/\3<=M:=by
 have h1:=h.f; have h2:=h.dp; have h3:=h.m;simp only[fine] at h1;simp only[PyData.depth] at h2;simp only[DN] at h3;exact⟨⟨iQ.mp h1,gK.mp (by omega),by omega⟩,by omega,by omega⟩
theorem aC.mono {b b' D D' M M':Nat} {ds:List PyData} (h:aC b D M ds) (h1:b<=b') (h2:D<=D') (h3:M<=M'):aC b' D' M' ds:=
 ⟨fun d hd=>jd h1 d (h.f d hd),fun d hd=>dC (h.dp d hd) h2,dC h.m h3⟩
theorem aC.append {b D M M':Nat} {ds es:List PyData} (h:aC b D M ds) (h':aC b D M' es):aC b D (M+M') (ds++es):=by
 refine⟨fun d hd=>?_,fun d hd=>?_,by rw[fB]; have:=h.m; have:=h'.m; omega⟩
 ·rcases mJ.mp hd with z | z
  ·exact h.f d z
  ·exact h'.f d z
 ·rcases mJ.mp hd with z | z
  ·exact h.dp d z
  ·exact h'.dp d z
theorem aC.one {b D M:Nat} {d:PyData} (h:fL b D M d):aC b D (M+2) [d]:=
 ⟨fun x hx=>by rw[lK.mp hx]; exact h.f,fun x hx=>by rw[lK.mp hx]; exact h.dp,by simp only[bF]; have:=h.m; omega⟩
theorem BZ {ds:List PyData} {i:Nat} {d:PyData} (h:ds[i]?=some d):ds=ds.take i++d::ds.drop (i+1):=by
 obtain⟨hi,e⟩:=lL.mp h;rw[<- e]; simp
theorem aC.at {b D M:Nat} {ds:List PyData} {i:Nat} {d:PyData} (h:aC b D M ds) (e:ds[i]?=some d):∃M1 M2 M3,aC b D M1 (ds.take i)/\fL b D M2 d/\aC b D M3 (ds.drop (i+1))/\M1+(M2+2)+M3<=M:=by
 have m:=h.m;rw[BZ e,fB] at m;simp only[bF] at m;have hm:d∈ds:=F_ e;exact⟨_,_,_,⟨fun x hx=>h.f x (List.mem_of_mem_take hx),fun x hx=>h.dp x (List.mem_of_mem_take hx),a_ _⟩,⟨h.f d hm,h.dp d hm,a_ _⟩,⟨fun x hx=>h.f x (List.mem_of_mem_drop hx),fun x hx=>h.dp x (List.mem_of_mem_drop hx),a_ _⟩,by omega⟩
theorem bL {b:Nat} {i:Int} (h:i.natAbs<=b):fL b 0 500 (.int i):=⟨by simp only[fine]; exact eV h,a_ _,a_ _⟩
theorem lR {b:Nat} {d:PyData} (h:d=.none\/(∃c,d=.bool c)):fL b 0 500 d:=by
 rcases h with rfl | ⟨c,rfl⟩
 ·exact⟨rfl,a_ _,a_ _⟩
 ·exact⟨rfl,a_ _,a_ _⟩
theorem oE {b:Nat}:aC b 0 0 []:=⟨fun _ h=>by simp at h,fun _ h=>by simp at h,a_ _⟩
theorem oA {b:Nat} {x:Str} (h:fine 0 (.str x)=true):fL b 0 500 (.str x):=⟨jd (fW _) _ h,a_ _,a_ _⟩
section
variable {X:Cx}
end
theorem xg {xs:List V} {i:Int} (h:0<=i):jJ xs none (some i)=xs.take i.toNat:=by
 obtain⟨j,rfl⟩:∃j:Nat,i=j:=⟨i.toNat,by omega⟩
 unfold jJ;rw[HT.um,HT.mU,List.drop_zero,Nat.sub_zero,rA];by_cases q:j<=xs.length
 ·rw[Nat.min_eq_left q]
 ·rw[FQ (by omega),CN,Ji (by omega)]
theorem uW {xs:List V} {i:Int} (h:0<=i):jJ xs (some i) none=xs.drop i.toNat:=by
 obtain⟨j,rfl⟩:∃j:Nat,i=j:=⟨i.toNat,by omega⟩
 unfold jJ;rw[HT.um,HT.mU,rA];by_cases q:j<=xs.length
 ·rw[Nat.min_eq_left q,Ji (by rw[zM]; omega)]
 ·rw[FQ (by omega),List.drop_length,List.take_nil,Jh (by omega)]
def Eu (d:PyData) (t:Str):Bool:=match d with
 | .str y=>y==t
 | _=>false
def yD:PyData->Bool
 | .dict _=>true
 | _=>false
section
variable {X:Cx}
theorem qZ (x y:Str):(x==y)=(y==x):=by
 by_cases e:x=y
 ·subst e; rfl
 ·rw[beq_eq_false_iff_ne.mpr e,beq_eq_false_iff_ne.mpr (Ne.symm e)]
theorem Dt (hu:X.A.units<cLine):jm X (compareOp .Eq) (fun x y H Q=>∃d t,y=.str t/\At H d x/\yD d=false/\Q (.bl (Eu d t)) H):=by
 refine .mk ?_;intro pins s σ H x y v u Q I rx ry h;obtain⟨d,t,rfl,hd,nd,q⟩:=h;obtain⟨tk,rfl⟩:=ry;cases d with
 | none=>unfold At at hd; subst hd; cases rx; exact SeqAt.RcAt.none_str t tk _ _ _ _ (aU I q rfl)
 | bool b=>unfold At at hd; subst hd; cases rx; exact SeqAt.RcAt.bool_str b t tk _ _ _ _ (aU I q rfl)
 | int i=>unfold At at hd; subst hd; obtain⟨t',rfl⟩:=rx; exact SeqAt.RcAt.int_str i t' t tk _ _ _ _ (aU I q rfl)
 | str z=>unfold At at hd; subst hd; obtain⟨t',rfl⟩:=rx; exact SeqAt.RcAt.str_str z t' t tk _ _ _ _ (aU I q rfl)
 | tuple ds=>
  unfold At at hd;obtain⟨a,xs,rfl,ha,_⟩:=hd;cases rx;obtain⟨its,r,p,_⟩:=I.tuple (fH.of (K:=X.K) ha);exact SeqAt.RcAt.tuple_str t tk p hu _ _ _ _ (aU I q rfl)
 | list ds=>
  unfold At at hd;obtain⟨a,xs,rfl,ha,_⟩:=hd;cases rx;obtain⟨_,its,n,rv,e⟩:=I.hok a _ ha;exact SeqAt.RcAt.list_str t tk (show s.heap.IsList a its.toArray from⟨_,e,rfl,n,rfl⟩) hu _ _ _ _ (aU I q rfl)
 | dict ds=>cases nd
theorem Av {pins:List (Addr×Obj)} {s:Shared} {σ:St} {H:Hp} {A:Around} (I:Inv X pins σ H s) (hu:A.units<cLine) {d:PyData} {x:V} {v:Value} (hd:At H d x) (rx:RelV x v) (nd:yD d=false) (t:Str) (tk:Tok):SeqAt.EqAt A s (.str t tk) v (Eu d t):=by
 cases d with
 | none=>unfold At at hd; subst hd; cases rx; exact SeqAt.EqAt.str_none t tk
 | bool b=>unfold At at hd; subst hd; cases rx; exact SeqAt.EqAt.str_bool t tk b
 | int i=>unfold At at hd; subst hd; obtain⟨t',rfl⟩:=rx; exact SeqAt.EqAt.str_int t tk i t'
 | str z=>unfold At at hd; subst hd; obtain⟨t',rfl⟩:=rx; show SeqAt.EqAt A s _ _ (z==t); rw[qZ]; exact SeqAt.EqAt.str_str t tk z t'
 | tuple ds=>
  unfold At at hd;obtain⟨a,xs,rfl,ha,_⟩:=hd;cases rx;obtain⟨its,r,p,_⟩:=I.tuple (fH.of (K:=X.K) ha);exact SeqAt.EqAt.str_tuple t tk p hu
 | list ds=>
  unfold At at hd;obtain⟨a,xs,rfl,ha,_⟩:=hd;cases rx;obtain⟨_,its,n,rv,e⟩:=I.hok a _ ha;exact SeqAt.EqAt.str_list t tk (show s.heap.IsList a its.toArray from⟨_,e,rfl,n,rfl⟩) hu
 | dict ds=>cases nd
def BW:Value->Str
 | .str t _=>t
 | _=>""
theorem uc:∀{ts:List Str} {us:List Value},Vals (ts.map V.str) us->us.map BW=ts/\∀u∈us,∃t tk,u=.str t tk
 | [],_,.nil=>⟨rfl,fun u h=>by simp at h⟩
 | b::bs,_,.cons r t=>by
  obtain⟨tk,rfl⟩:=(r:∃tk,_=Value.str b tk);obtain⟨h1,h2⟩:=uc t;refine⟨by rw[gR,h1]; rfl,fun u hu=>?_⟩
  rcases jE.mp hu with e | e
  ·exact⟨_,_,e⟩
  ·exact h2 u e
theorem Js (hu:X.A.units+64<cLine):jm X (compareOp .NotEq) (fun x y H Q=>∃d e,At H d x/\At H e y/\d.hasDict=false/\e.hasDict=false/\d.canLay0=true/\e.canLay0=true/\d.depth<=60/\Q (.bl (!PyData.eqv d e)) H):=by
 refine .mk ?_;intro pins s σ H x y v u Q I rx ry h;obtain⟨d,e,hd,he,n1,n2,c1,c2,dp,q⟩:=h;obtain⟨as,r1⟩:=nP I.hok _ _ _ hd rx n1;obtain⟨bs,r2⟩:=nP I.hok _ _ _ he ry n2;exact SeqAt.compareNe_reads r1 r2 c1 c2 (by have:=Nat.min_le_left d.depth e.depth; omega) (aU I q rfl)
end
def FK (g:TG) (tb:TS) (D:Ends) (σ:St) (vs:List V) (H1:Hp):Prop:=∃j:Int,vs=[.int j]/\-(2 ^ 62)<=j/\j<2 ^ 62/\∃W:Nat->Nat->St->Hp->Prop,(∃m,W 0 m σ H1)/\∀i m σ H,W i m σ H ->
 ((Bt 0 j.toNat).stop i H/\D.nx σ H)\/((Bt 0 j.toNat).go i H/\∃N:St->Hp->Prop,(∀σ' H',N σ' H'->∃m',m'<m/\W (i+1) m' σ' H')/\∀x H',(Bt 0 j.toNat).Fe i H x H'->g x σ H' fun σ2 H2=>tb { D with nx:=N,ct:=N,bk:=D.nx } σ2 H2)
theorem jN {ta:TA} {g:TG} {tb:TS} {D:Ends} {σ:St} {H:Hp}:Fl (uR ta) g tb D σ H=ta σ H (FK g tb D σ):=rfl
theorem FK.of {g:TG} {tb:TS} {D:Ends} {σ:St} {H:Hp} {n:Nat} {i:Int} (ei:i=n) (hn:n<=1000000) (Pv:Nat->St->Hp->Prop) (h0:Pv 0 σ H)
  (hs:∀i σ H,i<n->Pv i σ H->g (.int (0+(i:Nat))) σ H fun σ2 H2=>tb { D with nx:=Pv (i+1),ct:=Pv (i+1),bk:=D.nx } σ2 H2) (hd:∀σ H,Pv n σ H->D.nx σ H):FK g tb D σ [.int i] H:=by
 subst ei;refine⟨n,rfl,by omega,by omega,?_⟩
 rw[rA];exact qy Pv h0 hs hd
def CK (js:List Nat) (te:TE) (σ:St) (Q:VK) (vs:List V) (H1:Hp):Prop:=∃j:Int,vs=[.int j]/\-(2 ^ 62)<=j/\j<2 ^ 62/\∀acc,H1 acc=none->∃W:Nat->Nat->List V->Hp->Prop,(∃m,W 0 m [] (upd H1 acc (.lst [])))/\∀i m ys H2,W i m ys H2 ->
 ((Bt 0 j.toNat).stop i H2/\Q (.ref acc) H2)\/((Bt 0 j.toNat).go i H2/\∀x H3,(Bt 0 j.toNat).Fe i H2 x H3->te (some x::fK js σ) H3 fun y H4=>H4 acc=some (.lst ys)/\ys.length<sizeLine/\∃m',m'<m/\W (i+1) m' (ys++[y]) (upd H4 acc (.lst (ys++[y]))))
theorem pY {js:List Nat} {ta:TA} {te:TE} {σ:St} {H:Hp} {Q:VK}:m6 js (uR ta) te σ H Q=ta σ H (CK js te σ Q):=rfl
theorem CK.of {js:List Nat} {te:TE} {σ:St} {H:Hp} {Q:VK} {n:Nat} {i:Int} (ei:i=n) (hn:n<=1000000)
  (h:∀acc,H acc=none->∃Pv:Nat->List V->Hp->Prop,Pv 0 [] (upd H acc (.lst [])) /\
   (∀i ys H',i<n->Pv i ys H'->te (some (.int (0+(i:Nat)))::fK js σ) H' fun y jg=>jg acc=some (.lst ys)/\ys.length<sizeLine/\Pv (i+1) (ys++[y]) (upd jg acc (.lst (ys++[y])))) /\
   ∀ys H',Pv n ys H'->Q (.ref acc) H'):CK js te σ Q [.int i] H:=by
 subst ei;have:=Eh (ta:=fun _ H R=>R [.int n] H) (σ:=σ) (H:=H) (Q:=Q) (js:=js) (te:=te) (n:=n) (fun R hR=>hR) hn h;exact this
def Gs (mg:Str->Option Value) (x:Str) (i:Str):Prop:=∃t,mg x=some (.str i t)
theorem vW {X:Cx} {x:Str} {i:Str} {pos:Pos} (h:Gs X.mg x i) (hg:Gl X x:=by rfl) (hd:(x==("__debug__" : Str))=false:=by decide):PE X (.Name x pos) (tC (.str i)):=by
 obtain⟨t,ht⟩:=h;exact cV hg ht ⟨t,rfl⟩ hd
def Mj (b:Int):List Int->Int
 | []=>b
 | x::r=>Mj (if x>b then x else b) r
section
variable {prog:Program} {w:World} {A:Around} {R:Result->Shared->Prop} {It:Addr} {fp wr:List Addr} {n:Nat} {Pv:Nat->Value->Prop} {St:Nat->Heap->Prop}
end
section
variable {prog:Program} {w:World} {A:Around} {E:Value->Shared->Prop} {s:Shared}
end
section
variable {X:Cx}
def K9 (t:TA) (te:TE):TE:=fun σ H Q=>t σ H fun vs H1=>te σ H1 fun y H2=>∃(p:Addr) (ns:List Int),vs=[.ref p]/\H2 p=some (.lst (ns.map V.int))/\(ns=[]->Q y H2)/\∀b r,ns=b::r->Q (.int (Mj b r)) H2
end
def Iu (t:Str):Nat:=if(("come" : Str)==t)=true then 0 else if(("done" : Str)==t)=true then 1 else 2
def KR:List V:=[.str "come",.str "done",.str "wait"]
section
variable {X:Cx}
def M6 (K:PySem.W.Frag) (mg:Str->Option Value) (x:Str) (W:List V):Prop:=∃a,mg x=some (.ref a)/\(∃o,K.lookup a=some o/\o.cls=.type "tuple" /\ o.dict=none)/\∀H,fH K H a W
def Od (K:PySem.W.Frag) (W:List V):TE:=fun _ H Q=>∀a,(∃o,K.lookup a=some o/\o.cls=.type "tuple" /\ o.dict=none)->(∀H',fH K H' a W)->Q (.ref a) H
end
section
variable {X:Cx} {pos:Pos}
def K5 (i j l:Nat) (ta:TA):TS:=fun D σ H=>ta σ H fun vs H1=>∃v w z,vs=[v,w,z]/\D.nx (((σ.set l (some z)).set j (some w)).set i (some v)) H1
end
theorem Inv.Fg {X:Cx} {pins:List (Addr×Obj)} {σ:St} {H:Hp} {s:Shared} {h':Heap} {t':Nat} {e it:Addr} (I:Inv X pins σ H s) (k:∀b o,b≠e->b≠it->s.heap.get? b=some o->h'.get? b=some o) (fe:iW X pins H e) (fi:iW X pins H it) :
  Inv X pins σ H { s with heap:=h',toks:=t' }:=by
 have k2:∀b o,b∉[e,it]->s.heap.get? b=some o->h'.get? b=some o:=fun b o hb q=>k b o (fun z=>hb (by simp[z])) (fun z=>hb (by simp[z])) q
 have fp:∀b∈[e,it],iW X pins H b:=fun b hb=>by
  rcases jE.mp hb with z | z
  ·rw[z]; exact fe
  ·rw[lK.mp z]; exact fi
 have ni:∀b u,H b=some u->b∉[e,it]:=fun b u q hb=>by rw[(fp b hb).1] at q; cases q
 refine I.step (g':=s.gens) (d':=s.drawn) (ch:=[e,it]) (fun b hb=>?_) (fun b o _ _ hc q _=>k2 b o hc q) (fun b o _ _ hc q _=>⟨o.slots,k2 b o hc q⟩) (fun _ _ _ _ n=>n) (fun b o hc q=>⟨o,k2 b o hc q⟩) (fun _ _ q=>q) (fun _ _ _ q=>q)
  (fun b ps q=>⟨#[],by rw[q]; simp⟩) (fun m hm=>?_) (fun b u q=>?_) I.bare
 ·obtain⟨_,f1,_,f3,f4,f5⟩:=fp b hb;exact⟨f3,f1,f4,f5⟩
 ·obtain⟨o,es,ep,ho,r⟩:=hm;refine⟨o,es,ep,k2 _ o (fun hb=>(fp _ hb).2.1 rfl) ho,r⟩
 ·refine(I.hok b u q).stay (fun c v hc z=>k2 c v ?_ z) (fun _ z=>z) fun _ _ z=>z;rcases hc with z | z
  ·rw[z]; exact ni b u q
  ·exact ni c _ z
def Kr (K:PySem.W.Frag) (a:Addr):It:=
 ⟨fun i H=>∃xs x,fJ K H a xs/\xs[i]?=some x,fun i H x H'=>∃p y,H p=none/\x=.ref p/\H'=upd H p (.tup [.int i,y])/\∀xs,fJ K H a xs->xs[i]?=some y,fun i H=>∃xs,fJ K H a xs/\xs.length<=i⟩
theorem zj {P:Program} {w:World} {K:PySem.W.Frag} {elts:List Expr} {x1} {tp:Pos} (a e it:Addr) (hne:e≠it):Turn P w K (.Tuple elts x1 tp) (Kr K a) [e,it] e (fun i h=>(∃old,IsEnum h e it (i:Nat) old)/\h.IsListIter it a i) where
 mem:=by simp
 obj:=fun i h st b hb=>by
  obtain⟨⟨old,he⟩,o,ho,c,d⟩:=st;rcases jE.mp hb with z | z
  ·rw[z]; exact⟨_,he,fun v q=>by cases q⟩
  ·rw[lK.mp z]; exact⟨o,ho,fun v q=>by rw[d] at q; cases q⟩
 keep:=fun i h h' st k=>by
  obtain⟨⟨old,he⟩,hi⟩:=st;exact⟨⟨old,k e (by simp) _ he⟩,hi.at fun o q=>k it (by simp) o q⟩
 item:=by
  intro X hP hw hK hc i pins s σ H E I hf st hg;subst hP hw hK;obtain⟨⟨old,he⟩,hi⟩:=st;obtain⟨xs,x,hq,hx⟩:=hg;obtain⟨its,rv,p,hz⟩:=I.list hq;obtain⟨u,hu,ru⟩:=rv.get hx;have fe:=hf e (by simp)
  have fi:=hf it (by simp)
  refine wpAny_pyNext_enum_item he hi p.isList (x:=u) (by simpa using hu) hne fun h' eo hi' ht hsz kk=>?_
  have fr:H s.heap.objs.size=none:=I.hok.fresh (a_ _)
  have I1:Inv X pins σ (upd H s.heap.objs.size (.tup [.int i,x])) { s with heap:=s.heap.push { cls:=.type "tuple",data:=.seq #[.int i s.toks,u] },toks:=s.toks }:=
   I.laid (t':=s.toks) (fun b v q=>gF _ q) (a_ _) ⟨(by show 2<=sizeLine; decide),[.int i s.toks,u],.cons ⟨_,rfl⟩ (.cons ru .nil),⟨_,gW _ rfl,rfl,_,rfl⟩⟩
  have ee:e<s.heap.objs.size:=gA he;have ei:it<s.heap.objs.size:=by obtain⟨o,ho,_⟩:=hi; exact gA ho
  have JT:iW X pins (upd H s.heap.objs.size (.tup [.int i,x])) e:=⟨by rw[aL (eF ee)]; exact fe.1,fe.2⟩
  have Q_:iW X pins (upd H s.heap.objs.size (.tup [.int i,x])) it:=⟨by rw[aL (eF ei)]; exact fi.1,fi.2⟩
  have I2:Inv X pins σ (upd H s.heap.objs.size (.tup [.int i,x])) { s with heap:=h',toks:=s.toks+1 }:=I1.Fg (t':=s.toks+1) (fun b o h1 h2 q=>by
   by_cases z:b=s.heap.objs.size
   ·subst z;rw[gW _ rfl] at q;cases q;exact ht
   ·rcases Heap.get?_push_cases q with w | w
    ·exact absurd w.1 z
    ·exact kk b o h1 h2 w) JT Q_
  refine⟨_,rfl,wpAny_letOwnedTupleGo_enum eo fun h'' en sb=>⟨.ref s.heap.objs.size,_,I2.turned (it:=e) (t':=s.toks+1) (fun b o hb q=>sb.extBut b o hb q) JT.1 JT.2.1 JT.2.2.2.1 JT.2.2.2.2.1 JT.2.2.2.2.2,rfl,⟨_,x,fr,rfl,rfl,fun ys hy=>by rw[I.uQ hy hq]; exact hx⟩,⟨⟨_,en⟩,?_⟩,fun b hb=>?_⟩⟩
  ·exact hi'.at fun o q=>sb.extBut it o (Ne.symm hne) q
  ·rcases jE.mp hb with z | z
   ·rw[z]; exact JT.1
   ·rw[lK.mp z]; exact Q_.1
 done:=by
  intro X hP hw hK hc i pins s σ H E I hf st hg;subst hP hw hK;obtain⟨⟨old,he⟩,hi⟩:=st;obtain⟨xs,hq,hx⟩:=hg;obtain⟨its,rv,p,hz⟩:=I.list hq;have hl:=rv.length;obtain⟨f0,f1,f2,f3,f4,f5⟩:=hf it (by simp)
  exact wpAny_pyNext_enum_end (I.ok.hd hc) he hi p.isList (by simp; omega) fun h' eb=>⟨rfl,I.turned (t':=s.toks) (fun b o hb q=>eb b o hb q) f0 f1 f3 f4 f5⟩
 self:=fun _ _ _ _ _ st h=>by
  obtain⟨⟨old,he⟩,_⟩:=st;exact wpAny_pyIter_enum he h
section
variable {X:Cx}
def DY (K:PySem.W.Frag) (ta:TA):TI:=fun σ H R=>ta σ H fun vs H1=>∃a,vs=[.ref a]/\(∃xs,fJ K H1 a xs)/\R (Kr K a) H1
theorem yq {K:PySem.W.Frag} {e:Expr} {elts:List Expr} {x1} {tp p pos:Pos} {ta:TA} (hK:X.K=K) (hm:X.mg "enumerate" = none) (ha:PA X [e] ta) (hg:Gl X "enumerate" := by rfl) (h1:dU e=true:=by rfl) :
  PI X (.Tuple elts x1 tp) (.Call (.Name "enumerate" p) [e] [] pos) (DY K ta):=by
 subst hK;refine .mk ?_;intro pins s σ H R I h;refine CT (oH I hg hm tK ?_ (by decide) (by decide))
 refine PyProof.Rows.callWith_type1 (cu (ha pos pins s σ H _ I h) fun us s1 ⟨vs,H1,I1,r1,q1⟩=>?_) (gb h1) (gf (es:=[]) rfl);obtain⟨a,rfl,⟨xs,hq⟩,q⟩:=q1;obtain⟨u,rfl,ru⟩:=r1.one;cases ru;obtain⟨its,rv,pl,hz⟩:=I1.list hq;refine call_enumerate_list pl.isList fun h' he hi hsz kk=>?_;have I2:Inv X pins σ H1 { s1 with heap:=h' }:=I1.kept (t':=s1.toks) kk
 have f1:H1 (s1.heap.objs.size+1)=none:=I1.hok.fresh (Nat.le_succ _);have f0:H1 s1.heap.objs.size=none:=I1.hok.fresh (a_ _);refine wpAny_pyIter_enum he ⟨s1.heap.objs.size+1,_,_,Kr X.K a,H1,rfl,I2,zj a (s1.heap.objs.size+1) s1.heap.objs.size (Nat.succ_ne_self _),⟨⟨_,he⟩,hi⟩,fun b hb=>?_,q⟩;rcases jE.mp hb with z | z
 ·rw[z]; exact I1.wQ (Nat.le_succ _) f1
 ·rw[lK.mp z]; exact I1.wQ (a_ _) f0
def EK (K:PySem.W.Frag) (g:TG) (tb:TS) (D:Ends) (σ:St) (vs:List V) (H1:Hp):Prop:=∃a,vs=[.ref a]/\(∃xs,fJ K H1 a xs)/\∃W:Nat->Nat->St->Hp->Prop,(∃m,W 0 m σ H1)/\∀i m σ H,W i m σ H ->
 ((Kr K a).stop i H/\D.nx σ H)\/((Kr K a).go i H/\∃N:St->Hp->Prop,(∀σ' H',N σ' H'->∃m',m'<m/\W (i+1) m' σ' H')/\∀x H',(Kr K a).Fe i H x H'->g x σ H' fun σ2 H2=>tb { D with nx:=N,ct:=N,bk:=D.nx } σ2 H2)
theorem zp {K:PySem.W.Frag} {ta:TA} {g:TG} {tb:TS} {D:Ends} {σ:St} {H:Hp}:Fl (DY K ta) g tb D σ H=ta σ H (EK K g tb D σ):=rfl
theorem EK.of {K:PySem.W.Frag} {g:TG} {tb:TS} {D:Ends} {σ:St} {H:Hp} {a:Addr} {xs:List V} (ha:H a=some (.lst xs)) (Pv:Nat->St->Hp->Prop) (h0:Pv 0 σ H) (hl:∀i σ H',i<=xs.length->Pv i σ H'->H' a=some (.lst xs))
  (hs:∀i x σ H p,xs[i]?=some x->Pv i σ H->H p=none->g (.ref p) σ (upd H p (.tup [.int (i:Nat),x])) fun σ2 H2=>tb { D with nx:=Pv (i+1),ct:=Pv (i+1),bk:=D.nx } σ2 H2) (hd:∀σ H,Pv xs.length σ H->D.nx σ H):EK K g tb D σ [.ref a] H:=by
 refine⟨a,rfl,⟨xs,fJ.of ha⟩,fun i m σ H=>m=xs.length-i/\i<=xs.length/\Pv i σ H,⟨_,rfl,fW _,h0⟩,?_⟩;rintro i m σ H ⟨rfl,hi,p⟩;have q:fJ K H a xs:=fJ.of (hl i σ H hi p);by_cases hlt:i<xs.length
 ·refine .inr ⟨⟨xs,xs[i],q,pB hlt⟩,Pv (i+1),fun σ' H' p'=>⟨xs.length-(i+1),by omega,rfl,hlt,p'⟩,fun x H' y=>?_⟩
  obtain⟨t,z,ht,rfl,rfl,hz⟩:=y;exact hs i z σ H t (hz xs q) p ht
 ·have e:i=xs.length:=by omega
  subst e;exact .inl ⟨⟨xs,q,a_ _⟩,hd σ H p⟩
end
section
variable {X:Cx}
theorem Ba:cB X (.type "list") (fun vs H Q=>∃(p:Addr) (ys:List V),vs=[.ref p]/\H p=some (.lst ys)/\∀l,H l=none->Q (.ref l) (upd H l (.lst ys))):=by
 refine .mk ?_;intro pins s σ H vs us Q I r h;obtain⟨p,ys,e,hp,q⟩:=h;exact sV pins s σ H vs us Q I r ⟨p,ys,e,.inl (fJ.of hp),q⟩
theorem nZ {K:PySem.W.Frag} {o e:Expr} {es:List Expr} {to:TE} {t:TA} {name:Str} {apos cpos:Pos} {T id:String} {r:V->List V->Hp->VK->Prop} (hK:X.K=K) (pa:PlainAttrs T) (slot:Slot T name id) (hty:typeOf (.builtin id)=pure (.type "method_descriptor")) (hm:N5 X id r) (ho:PE X o to) (ha:PA X (e::es) t)
  (hbase:attributeBase o name X.env (eval o X.env)=eval o X.env:=by rfl)
  (hfew:((backTo cpos (starEach (e::es) X.env)).all (fun x=>!x.1)&&(backToKw cpos (keywordEach [] X.env)).all (fun x=>x.1.isSome)&&decide ((e::es).length+([]:List Keyword).length+(if([]:List Keyword).isEmpty then 0 else 1)<30))=true:=by rfl)
  (hline:(apos.endLine==cpos.line)=true:=by rfl) (hs:starEach (e::es) X.env=(false,eval e X.env)::starEach es X.env:=by rfl) (hplain:(backTo cpos (starEach es X.env)).any (·.1)=false:=by rfl):PE X (.Call (.Attribute o name apos) (e::es) [] cpos) (Oe K T r to t):=by
 subst hK;exact LC pa slot hty hm ho ha hbase hfew hline hs hplain
end
section
variable {prog:Program} {w:World} {A:Around} {E:Value->Shared->Prop} {s:Shared}
end
section
variable {X:Cx}
end
structure Qp (K:PySem.W.Frag) (x qual:Str) (st:Stmt) (f:Addr) (fd:FuncData) (T:Addr) (i:Int) (t:Tok):Prop where
 ex:∃(oc:Value) (od:Option Addr) (kV doc pm:Value) (an:Option Addr) (cdv ct:Value) (osl:Array (Option Value)),
  fd=PySem.W.fnOf x qual (dI st) (dq st) (aF st) (.ref T) kV doc pm an cdv ct/\K.lookup f=some ⟨oc,od,.func fd,osl⟩/\PySem.W.codeIn K cdv qual=true
 kp:PySem.W.keepIn K (.ref f)=true
 df:∃o n,K.lookup T=some o/\o.data=.seq #[.int i t] n
section
variable {P:Program} {w:World} {K:PySem.W.Frag} {mg:Str->Option Value} {base:Heap}
end
structure Wm (P:Program) (w:World) (K:PySem.W.Frag) (mg:Str->Option Value) (base:Heap) (k:Nat) (x:Str) (ps:List Str) (i:Int) (sp:Sp) where
 f:Addr
 fd:FuncData
 t:Tok
 G:bI P w K mg base gw k f fd ps sp
 kp:PySem.W.keepIn K (.ref f)=true
 b:Binds K fd ps []
 bd:Binds K fd ps [.int i t]
 m:mg x=some (.ref f)
section
variable {X:Cx} {x:Str} {p pos:Pos} {e:Expr} {es:List Expr} {t:TA}
end
section
variable {X:Cx}
end
end L2
namespace L2
open PySem
mutual
def rQ:PyData->Bool
 | .tuple ds=>dH ds
 | .list _=>false
 | .dict _=>false
 | .none=>true
 | .bool _=>true
 | .int _=>true
 | .str _=>true
def dH:List PyData->Bool
 | []=>true
 | d::ds=>rQ d&&dH ds
end
theorem ou:∀{ds:List PyData},dH ds=true↔∀d∈ds,rQ d=true
 | []=>by simp[dH]
 | d::ds=>by
  have ih:=ou (ds:=ds);simp only[dH,lG,ih,jE,forall_eq_or_imp]
mutual
theorem At.An {G:Hp} {p:Addr} {xs:List V} (hp:G p=some (.lst xs)):∀(d:PyData) (v:V),rQ d=true->At G d v->At (hid p G) d v
 | .none,_,_,h=>by unfold At at h ⊢; exact h
 | .bool _,_,_,h=>by unfold At at h ⊢; exact h
 | .int _,_,_,h=>by unfold At at h ⊢; exact h
 | .str _,_,_,h=>by unfold At at h ⊢; exact h
 | .tuple ds,v,n,h=>by
  unfold At at h ⊢;obtain⟨a,ys,e,h1,h2⟩:=h;refine⟨a,ys,e,?_,aq.An hp ds ys (by simpa[rQ] using n) h2⟩
  rw[bx (fun z=>by subst z; rw[hp] at h1; cases h1)]; exact h1
 | .list _,_,n,_=>by simp[rQ] at n
 | .dict _,_,n,_=>by simp[rQ] at n
theorem aq.An {G:Hp} {p:Addr} {xs:List V} (hp:G p=some (.lst xs)):∀(ds:List PyData) (ys:List V),dH ds=true->aq G ds ys->aq (hid p G) ds ys
 | [],_,_,h=>by unfold aq at h ⊢; exact h
 | d::ds,ys,n,h=>by
  unfold aq at h ⊢;obtain⟨x,r,e,h1,h2⟩:=h;have n':rQ d=true/\dH ds=true:=by simpa[dH] using n
  exact⟨x,r,e,At.An hp d x n'.1 h1,aq.An hp ds r n'.2 h2⟩
end
theorem vI:∀l:List Int,(∀c∈l,0<=c)->0<=l.sum
 | [],_=>by simp
 | x::l,h=>by rw[uv]; have:=vI l fun c hc=>h c (gY _ hc); have:=h x gj; omega
theorem oG:∀{l:List Int},(∀c∈l,0<=c)->∀c∈l,c<=l.sum
 | [],_,c,hc=>by simp at hc
 | x::l,h,c,hc=>by
  rw[uv];have h0:=vI l fun c hc=>h c (gY _ hc);rcases jE.mp hc with z | z
  ·rw[z]; omega
  ·have:=oG (fun c hc=>h c (gY _ hc)) c z;have:=h x gj;omega
theorem lU {b:Nat}:∀{cs:List Int},(∀c∈cs,c.natAbs<=b)->aC b 0 (502*cs.length) (cs.map PyData.int)
 | [],_=>oE
 | c::cs,h=>by
  have:=(aC.one (bL (h c gj))).append (lU fun x hx=>h x (gY _ hx));exact this.mono (a_ _) (a_ _) (by rw[fj]; omega)
theorem qi {ts:List Str} {i:Int} (h0:0<=i) (h1:i<ts.length):∃t,t∈ts/\Bf (ts.map V.str) i=some (.str t):=by
 have hi:i.toNat<ts.length:=by omega
 refine⟨ts[i.toNat],vN hi,?_⟩;have:=bV (xs:=ts.map V.str) (j:=i.toNat) (v:=.str ts[i.toNat]) (by rw[gU,pB hi]; rfl)
 rwa [show((i.toNat:Nat):Int)=i by omega] at this
theorem qj {ts:List Int} {i:Int} (h0:0<=i) (h1:i<ts.length):∃t,t∈ts/\Bf (ts.map V.int) i=some (.int t):=by
 have hi:i.toNat<ts.length:=by omega
 refine⟨ts[i.toNat],vN hi,?_⟩;have:=bV (xs:=ts.map V.int) (j:=i.toNat) (v:=.int ts[i.toNat]) (by rw[gU,pB hi]; rfl)
 rwa [show((i.toNat:Nat):Int)=i by omega] at this
def KZ (a b:TS):TS:=Fi a b
theorem Lg (i:Nat) {e:TE} {b:TS}:Fi (BV e (km i)) b=KZ (BV e (km i)) b:=rfl
theorem O5 {α:Type} {l:List α} (h:l.length=5):∃a b c d e,l=[a,b,c,d,e]:=by
 match l,h with
 | [a,b,c,d,e],_=>exact⟨a,b,c,d,e,rfl⟩
theorem O3 {α:Type} {l:List α} (h:l.length=7):∃a b c d e f g,l=[a,b,c,d,e,f,g]:=by
 match l,h with
 | [a,b,c,d,e,f,g],_=>exact⟨a,b,c,d,e,f,g,rfl⟩
theorem aH.dD {H H':Hp} {p:Addr} {o:HO} (s:aH H H') (hp:H p=none):aH H (upd H' p o):=fun b u h=>by rw[aL (bf h hp)]; exact s _ _ h
end L2
namespace L2
open PySem PySem.Spec PyProof.Rows
section
variable {X:Cx}
end
structure xV (X:Cx) (nt:Nat) (N':List Str) (js:List Nat) (sc:Scope):Prop where
 kind:sc.kind=.function
 lO:∀y∈sc.names,y.2≠.cell
 names:∀y∈sc.names,y.2=.local->sc.names.lookup y.1=some .local
 clos:closureFor sc X.env=pure (lV sc X.env)
 all:(sc.names.all fun y=>y.2 != .free || (X.env.cells.lookup y.1).isSome)=true
 len:N'.length=nt+js.length
 cap:∀(i j:Nat),js[i]?=some j->N'[nt+i]?=X.N[j]?
 Ej:∀y∈N'.drop nt,X.env.kindOf y=some .cell/\sc.names.lookup y=some .free
theorem oV:∀(names:List (Str×NameKind)) (h:Heap) (acc:List (Str×Addr)) (x:Str) (c:Addr),(cellsFrom h.objs.size names acc).lookup x=some c->((pushCells h names).IsCell c none/\h.objs.size<=c)\/(acc.lookup x=some c/\(x,NameKind.cell)∉names)
 | [],h,acc,x,c,e=>.inr ⟨e,by simp⟩
 | (name,kind)::r,h,acc,x,c,e=>by
  unfold cellsFrom at e;unfold pushCells;split at e
  ·rename_i hk;have hk':kind=.cell:=by simpa using hk
   rw[bj hk];have:=oV r (h.push { cls:=.type "cell",data:=.cell none }) ((name,h.objs.size)::acc) x c (by rw[ux]; exact e)
   rw[ux] at this;rcases this with⟨z,z'⟩ | ⟨z,z'⟩
   ·exact .inl ⟨z,by omega⟩
   ·rw[lH] at z;cases hx:x==name with
    | true=>
     rw[hx] at z;cases z;refine .inl ⟨?_,a_ _⟩;exact⟨_,pushCells_keeps r _ _ _ (gW _ rfl),rfl⟩
    | false=>
     rw[hx] at z;refine .inr ⟨z,fun m=>?_⟩;rcases jE.mp m with q | q
     ·have:x=name:=(Prod.mk.inj q).1;simp[this] at hx
     ·exact z' q
  ·rename_i hk;rw[bB hk];rcases oV r h acc x c e with z | ⟨z,z'⟩
   ·exact .inl z
   ·refine .inr ⟨z,fun m=>?_⟩;rcases jE.mp m with q | q
    ·exact hk (by rw[<- (Prod.mk.inj q).2]; rfl)
    ·exact z' q
theorem xu:∀(names:List (Str×NameKind)) (n:Nat) (acc:List (Str×Addr)),(∀x y c,acc.lookup x=some c->acc.lookup y=some c->x=y)->(∀x c,acc.lookup x=some c->c<n) ->
  (∀x y c,(cellsFrom n names acc).lookup x=some c->(cellsFrom n names acc).lookup y=some c->x=y)/\True
 | [],n,acc,h,_=>⟨h,trivial⟩
 | (name,kind)::r,n,acc,h,hb=>by
  unfold cellsFrom;split
  ·refine xu r (n+1) ((name,n)::acc) (fun x y c e1 e2=>?_) (fun x c e=>?_)
   ·rw[lH] at e1 e2;cases hx:x==name with
    | true=>
     rw[hx] at e1;cases e1;cases hy:y==name with
     | true=>rw[beq_iff_eq.mp hx,beq_iff_eq.mp hy]
     | false=>rw[hy] at e2; exact absurd (hb _ _ e2) (uw _)
    | false=>
     rw[hx] at e1;cases hy:y==name with
     | true=>rw[hy] at e2; cases e2; exact absurd (hb _ _ e1) (uw _)
     | false=>rw[hy] at e2; exact h x y c e1 e2
   ·rw[lH] at e;cases hx:x==name with
    | true=>rw[hx] at e; cases e; exact Nat.lt_succ_self _
    | false=>rw[hx] at e; exact CP (hb _ _ e)
  ·exact xu r n acc h hb
theorem xF {x:Str}:∀(names:List (Str×NameKind)) (n:Nat) (acc:List (Str×Addr)),((x,NameKind.cell)∈names\/(acc.lookup x).isSome=true)->((cellsFrom n names acc).lookup x).isSome=true
 | [],n,acc,h=>by
  rcases h with h | h
  ·simp at h
  ·exact h
 | (name,kind)::r,n,acc,h=>by
  unfold cellsFrom;split
  ·rename_i hk;refine xF r (n+1) _ ?_;rcases h with h | h
   ·rcases jE.mp h with q | q
    ·refine .inr ?_;rw[lH,(Prod.mk.inj q).1];simp
    ·exact .inl q
   ·refine .inr ?_;rw[lH];split
    ·rfl
    ·exact h
  ·rename_i hk;refine xF r n acc ?_;rcases h with h | h
   ·rcases jE.mp h with q | q
    ·exact absurd (by rw[<- (Prod.mk.inj q).2]; rfl) hk
    ·exact .inl q
   ·exact .inr h
theorem sS {x:Str} {c:Addr}:∀(names:List (Str×NameKind)) (n:Nat) (acc:List (Str×Addr)),(x,NameKind.cell)∉names->acc.lookup x=some c->(cellsFrom n names acc).lookup x=some c
 | [],n,acc,_,e=>e
 | (name,kind)::r,n,acc,h,e=>by
  unfold cellsFrom;split
  ·rename_i hk;refine sS r (n+1) _ (fun m=>h (gY _ m)) ?_;rw[lH];cases hx:x==name with
   | true=>
    have hk':kind=.cell:=by simpa using hk
    exact absurd (by rw[beq_iff_eq.mp hx,hk']; exact gj) h
   | false=>exact e
  ·exact sS r n acc (fun m=>h (gY _ m)) e
theorem o_ {M:Model} {A:Around} {E:Value->Shared->Prop} {s:Shared} {scope:Scope} {globals:Addr} {cl:List (Str×Addr)} {qual:Str} {env:Env} {Q:Env->Shared->Prop}
  (hQ:Q { scope,locals:=s.heap.objs.size,globals,cells:=cellsFrom (s.heap.objs.size+1) scope.names cl,qual,func:=none,code:=env.code,frame:=env.frame,builtins:=env.builtins } { s with heap:=pushCells (s.heap.push { cls:=.type "dict",data:=.dict #[] }) scope.names }) :
  wpAny M A (newFunctionEnv scope globals cl [] qual none .none (some env)) Q E s:=by
 simp only[newFunctionEnv,Option.isSome_some,if_true];refine bJ (wpAny_alloc ?_);refine bJ (wpAny_layCells _ (fun name kind cells=>by cases hkc:kind==NameKind.cell <;> simp[hkc]) _ _ _ _ ?_)
 rw[show({ s with heap:=s.heap.push { cls:=.type "dict",data:=.dict #[] } }:Shared).heap.objs.size=s.heap.objs.size+1 from ux ..]
 simp only[List.forIn_nil];exact bJ (fG (fG hQ))
def vy (X:Cx) (N':List Str) (sc:Scope) (fp:List Addr) (s:Shared) (H:Hp):Cx where
 prog:=X.prog
 w:=X.w
 K:=X.K
 mg:=X.mg
 base:=X.base
 A:=X.A
 N:=N'
 s₀:=s
 H₀:=H
 env:=compEnvC sc (cellsFrom (s.heap.objs.size+1) sc.names (lV sc X.env)) s.heap.objs.size X.env
 outer:=X.stack
 stack:=X.stack
 ex:=fp
 fn:=fun y=>sc.names.lookup y==some .cell
 calm:=X.calm
 pn:=[]
 xe:=fun _ _=>False
structure Hk (X:Cx) (nt:Nat) (N':List Str) (js:List Nat) (sc:Scope):Prop where
 kind:sc.kind=.function
 cells:∀y∈sc.names,y.2=.cell->sc.names.lookup y.1=some .cell
 names:∀y∈sc.names,y.2=.local->sc.names.lookup y.1=some .local
 clos:closureFor sc X.env=pure (lV sc X.env)
 all:(sc.names.all fun y=>y.2 != .free || (X.env.cells.lookup y.1).isSome)=true
 len:N'.length=nt+js.length
 cap:∀(i j:Nat),js[i]?=some j->N'[nt+i]?=X.N[j]?
 Ej:∀y∈N'.drop nt,X.env.kindOf y=some .cell/\sc.names.lookup y=some .free
theorem Al {X:Cx} {pins:List (Addr×Obj)} {σ:St} {H:Hp} {s:Shared} {fp:List Addr} {N':List Str} {js:List Nat} {sc:Scope} {nt:Nat} {h1:Heap} {tk:Nat} (I:Inv X pins σ H s) (hf:∀b∈fp,iW X pins H b) (hlt:∀b∈fp,b<s.heap.objs.size)
  (S:Hk X nt N' js sc) (sU:∀{x:Str} {c:Addr},(cellsFrom (s.heap.objs.size+1) sc.names (lV sc X.env)).lookup x=some c->(h1.IsCell c none/\s.heap.objs.size<c)\/((lV sc X.env).lookup x=some c/\(x,NameKind.cell)∉sc.names)) (hn:h1.Ns s.heap.objs.size fun _=>none) (hk:∀b o,s.heap.get? b=some o->h1.get? b=some o):Inv (vy X N' sc fp s H) [] (List.replicate nt none++fK js σ) H { s with heap:=h1,toks:=tk }:=by
 have old:∀x c,(lV sc X.env).lookup x=some c->c<s.heap.objs.size+1:=fun x c e=>by
  obtain⟨v,o,ho,_⟩:=I.cell x c (dX e);exact CP (gA ho)
 refine⟨⟨I.ok.mod,S.kind,I.ok.glob,I.ok.blt,a_ _,fun x y c e1 e2=>(xu sc.names _ _ (fun x y c e1 e2=>I.ok.inj x y c (dX e1) (dX e2)) old).1 x y c e1 e2,fun x hx=>?_,fun x c hf' e=>(by
   rcases sU e with z | ⟨_,z⟩
   ·exact lF z.2
   ·exact absurd (PySem.mem_of_lookup (show sc.names.lookup x=some .cell from by simpa using(show(sc.names.lookup x==some NameKind.cell)=true from hf'))) z),I.ok.hd,I.ok.frames,.inl rfl,fun b hb=>⟨eF (hlt b hb),fun x c e=>(by
   rcases sU e with z | ⟨z,_⟩
   ·exact Nat.ne_of_gt (Nat.lt_trans (hlt b hb) z.2)
   ·exact(hf b hb).2.2.2.2.1 x c (dX z))⟩,I.bs,
  dC I.ok.Ex I.sz,fun b o e hb=>?_,fun b hb z=>?_,I.stack,I.q_⟩,rfl,I.bare,Un.kept hk,⟨fun _=>none,hn,fun i x v e1 e2 e3=>?_⟩,fun x c e=>?_,I.hok.fresh (a_ _),fun x c e=>(by
   rcases sU e with z | ⟨z,_⟩
   ·exact I.hok.fresh (lF z.2)
   ·exact I.iM x c (dX z)),fun p hp=>absurd (show p∈([]:List (Addr×Obj)) from hp) (by simp),I.hok.kept hk,?_⟩
 ·refine vQ.mp (xF sc.names _ _ ?_);have hx':(relabel sc X.env).names.lookup x=some .cell\/(relabel sc X.env).names.lookup x=some .free:=hx
  have key:(x,NameKind.cell)∈sc.names\/(x,NameKind.free)∈sc.names:=by
   rcases hx' with q | q
   ·obtain⟨k,hm,e | ⟨e,_⟩⟩:=my q
    ·rw[<- e] at hm; exact .inl hm
    ·refine .inr ?_; rw[<- e]; exact hm
   ·refine .inr ?_;obtain⟨k,hm,e | ⟨e,_⟩⟩:=my q
    ·rw[e]; exact hm
    ·rw[<- e]; exact hm
  rcases key with key | key
  ·exact .inl key
  have a:=iC.mp S.all _ key;have a':(X.env.cells.lookup x).isSome=true:=by simpa using a
  obtain⟨c,hc⟩:=vQ.mp a';exact .inr (vQ.mpr ⟨c,xq hc sc.names [] key⟩)
 ·rcases(hf b hb).2.2.2.1 with z | z
  ·exact I.ok.DK b o e z
  ·exact absurd (jF (gA e) (dC I.ok.Ex z)) (uw _)
 ·rcases jE.mp (I.vJ b z) with q | q
  ·exact(hf b hb).2.1 q
  ·exact(hf b hb).2.2.1 q
 ·by_cases hlt:i<nt
  ·rw[Gb (by rw[uA]; exact hlt),Jj,bj hlt] at e2
   cases e2
  ·obtain⟨i',rfl⟩:∃i',i=nt+i':=⟨i-nt,by omega⟩
   rw[Gd (by rw[uA]; omega),uA,Nat.add_sub_cancel_left] at e2
   have e2':(fK js σ)[i']?=some (some v):=e2;unfold fK at e2';rw[gU] at e2';cases hj:js[i']? with
   | none=>rw[hj] at e2'; simp at e2'
   | some j=>
    rw[hj] at e2';have e4:(σ[j]?).join=some v:=by simpa using e2'
    have e5:σ[j]?=some (some v):=by
     cases q:σ[j]? with
     | none=>rw[q] at e4; simp at e4
     | some z=>rw[q] at e4; simp at e4; rw[e4]
    have e6:X.N[j]?=some x:=by rw[<- S.cap i' j hj]; exact e1
    have mem:x∈N'.drop nt:=by
     have e1':N'[nt+i']?=some x:=e1;exact F_ (i:=i') (by rw[List.getElem?_drop]; exact e1')
    obtain⟨k1,k2⟩:=S.Ej x mem;obtain⟨m,_,hl⟩:=I.loc;obtain⟨u,r,l⟩:=hl j x v e6 e5 (.inr (.inl k1));refine⟨u,r,.inr ⟨.inl (jW I.ok.kind k1 sc.names k2),?_⟩⟩;rcases l with⟨z,_⟩ | ⟨_,c,hc,hcell⟩
    ·rw[k1] at z; cases z
    ·obtain⟨o,ho,hd⟩:=hcell;exact⟨c,sS sc.names _ _ (fun z=>by have:=S.cells _ z rfl; rw[k2] at this; cases this) (xq hc sc.names [] (PySem.mem_of_lookup k2)),o,hk c o ho,hd⟩
 ·rcases sU e with z | ⟨z,_⟩
  ·exact⟨none,z.1⟩
  ·obtain⟨v,o,ho,hd⟩:=I.cell x c (dX z);exact⟨v,o,hk c o ho,hd⟩
 ·show(List.replicate nt none++fK js σ).length=N'.length;rw[S.len]; simp[fK]
theorem yN:∀{names:List (Str×NameKind)} {n:Nat} {acc:List (Str×Addr)},(∀y∈names,y.2≠.cell)->cellsFrom n names acc=acc
 | [],_,_,_=>rfl
 | (name,kind)::r,n,acc,h=>by
  unfold cellsFrom;rw[bB (fun z=>h _ gj (by simpa using z))]
  exact yN fun y hy=>h y (gY _ hy)
theorem Ef {X:Cx} {N':List Str} {sc:Scope} {fp:List Addr} {s:Shared} {H:Hp} (h:∀y∈sc.names,y.2≠.cell):Kp X N' sc fp s H=vy X N' sc fp s H:=by
 have e:(fun _:Str=>false)=fun y=>sc.names.lookup y==some .cell:=funext fun y=>by
  cases z:sc.names.lookup y==some NameKind.cell with
  | false=>rfl
  | true=>exact absurd rfl (h _ (PySem.mem_of_lookup (by simpa using z)))
 unfold Kp vy;rw[yN h,e]
theorem xV.toD {X:Cx} {nt:Nat} {N':List Str} {js:List Nat} {sc:Scope} (S:xV X nt N' js sc):Hk X nt N' js sc:=⟨S.kind,fun y hy e=>absurd e (S.lO y hy),S.names,S.clos,S.all,S.len,S.cap,S.Ej⟩
structure Bm (X:Cx) (ifs:List Expr) (t:TT):Prop where
 mk ::
 go:∀(pins:List (Addr×Obj)) (s:Shared) (σ:St) (H:Hp) (Q:Bool->Hp->Prop),Inv X pins σ H s->t σ H Q->wpAny (model X.prog X.w) X.A (forIn ifs true fun c r=>if r=true then do let ok <- isTrue c X.env (eval c X.env); pure (ForInStep.yield ok) else pure (ForInStep.yield r)) (TP X pins σ Q) X.xe s
instance {X:Cx} {ifs:List Expr} {t:TT}:CoeFun (Bm X ifs t) (fun _=>
 ∀(pins:List (Addr×Obj)) (s:Shared) (σ:St) (H:Hp) (Q:Bool->Hp->Prop),Inv X pins σ H s->t σ H Q->wpAny (model X.prog X.w) X.A (forIn ifs true fun c r=>if r=true then do let ok <- isTrue c X.env (eval c X.env); pure (ForInStep.yield ok) else pure (ForInStep.yield r)) (TP X pins σ Q) X.xe s):=⟨Bm.go⟩
def zq:TT:=fun _ H Q=>Q true H
theorem yF {X:Cx}:Bm X [] zq:=.mk fun pins s σ H Q I h=>wpAny_tests_nil ⟨H,I,h⟩
def kZ (nt:Nat) (js:List Nat) (wi:TI) (g:TG) (tc:TT) (te:TE):TE:=fun σ H Q=>wi σ H fun J H1=>∀acc,H1 acc=none->∃W:Nat->Nat->List V->Hp->Prop,(∃m,W 0 m [] (upd H1 acc (.lst [])))/\∀i m ys H2,W i m ys H2 ->
 (J.stop i H2/\Q (.ref acc) H2)\/(J.go i H2/\∀x H3,J.Fe i H2 x H3->g x (List.replicate nt none++fK js σ) H3 fun σ' H'=>(σ'.drop nt=fK js σ/\σ'.length=(List.replicate nt (none:Option V)++fK js σ).length)/\tc σ' H' fun b jg=>
  if b=true then te σ' jg fun y H4=>H4 acc=some (.lst ys)/\ys.length<sizeLine/\∃m',m'<m/\W (i+1) m' (ys++[y]) (upd H4 acc (.lst (ys++[y]))) else ∃m',m'<m/\W (i+1) m' ys jg)
theorem sO {prog:Program} {w:World} {A:Around} {R:Result->Shared->Prop} {s:Shared} {elt target iter:Expr} {ifs:List Expr} {sc:Scope} {pos:Pos} {it acc:Value} {env:Env} (Iv:Nat->Shared->Prop)
  (turn:∀n s,Iv n s->wpAny (model prog w) A (pyNext it) (fun r s1=>match r with
   | none=>R (.ok .next) s1
   | some v=>wpAny (model prog w) A (letOwnedTupleGo target it v) (fun _ s2=>wpAny (model prog w) A (assign target env v) (fun _ s3=>
     wpAny (model prog w) A (forIn ifs true fun c r=>if r=true then do let ok <- isTrue c env (eval c env); pure (ForInStep.yield ok) else pure (ForInStep.yield r)) (fun ok Ol=>
     if ok=true then wpAny (model prog w) A (eval elt env) (fun x s4=>
     wpAny (model prog w) A (call (.builtin "list.append") [acc,x]) (fun _ s5=>∃m,m<n/\Iv m s5) (fun _ _=>False) s4) (fun _ _=>False) Ol else ∃m,m<n/\Iv m Ol) (fun _ _=>False) s3) (fun _ _=>False) s2) (fun _ _=>False) s1) (fun _ _=>False) s)
  (n:Nat) (h:Iv n s):codeAny (model prog w) A (.compLoop (.ListComp elt [⟨target,iter,ifs,0⟩] sc pos) 0 it acc env) R s:=by
 refine codeAny_loop rfl Iv (fun n s hI=>?_) n h;show wpAny _ _ ((compTurn (.ListComp elt [⟨target,iter,ifs,0⟩] sc pos) 0 it acc env).onRaise (fun x=>do noteFrame x env; theTreesLotGoes x)) _ _ s
 refine wpAny_noted ?_;rw[compTurn_list];refine bJ (wpAny_standAt (bJ (pA (turn n s hI) (fun r s1 q1=>?_) fun _ _ f=>f.elim)));cases r with
 | none=>exact fG q1
 | some v=>
  refine bJ (pA q1 (fun _ s2 q2=>?_) fun _ _ f=>f.elim);refine bJ (pA q2 (fun _ s3 q3=>bJ (pA q3 (fun ok Ol QM=>?_) fun _ _ f=>f.elim)) fun _ _ f=>f.elim);cases ok with
  | false=>exact fG ⟨rfl,QM⟩
  | true=>exact bJ (bJ (pA QM (fun x s4 q4=>bJ (pA q4 (fun _ s5 q5=>fG (fG ⟨rfl,q5⟩)) fun _ _ f=>f.elim)) fun _ _ f=>f.elim))
theorem xn {X:Cx} {elt iter:Expr} {tg:Expr} {ifs:List Expr} {g:TG} {tc:TT} {nt:Nat} {pos:Pos} {sc:Scope} {wi:TI} {te:TE} {N':List Str} {js:List Nat} {use:Option (Value->Sem Unit)} {Qc:Value->Shared->Prop} {pins:List (Addr×Obj)} {s:Shared} {σ:St} {H:Hp} {Q:VK} {kp:Pos} (hc:X.calm=true) (hi:PI X tg iter wi) (S:Hk X nt N' js sc)
  (hgt:∀fp s H,PG (vy X N' sc fp s H) tg g) (hif:∀fp s H,Bm (vy X N' sc fp s H) ifs tc) (he:∀fp s H,PE (vy X N' sc fp s H) elt te) (hs:∀x,foldedSetIterable iter X.env x=pure x) (I:Inv X pins σ H s) (h:kZ nt js wi g tc te σ H Q)
  (fin:∀(acc C:Addr) (H':Hp) (s':Shared),Inv X pins σ H' s'->iW X pins H' C->(∃m,s'.heap.Ns C m)->Q (.ref acc) H'->compPost (model X.prog X.w) X.A X.xe use Qc (.ref acc) C (.ok .next) s') :
  wpAny (model X.prog X.w) X.A (comprehension (.ListComp elt [⟨tg,iter,ifs,0⟩] sc pos) sc X.env kp (newList []) false (eval iter X.env) use) Qc X.xe s:=by
 refine wpAny_comprehension_free (use:=use) rfl hs S.clos S.kind S.names ?_;refine cu (hi pins s σ H _ I h) fun v s1 q1=>cu q1 fun itv s2 q2=>?_;obtain⟨it,fp,tn,J,H2,e,I2,T,st2,f2,q3⟩:=q2;subst e;refine zN ?_;obtain⟨W,⟨m0,w0⟩,turn⟩:=q3 s2.heap.objs.size I2.fresh;have I3:=I2.Mq (ys:=[]) (its:=[]) (t':=s2.toks) .nil (fW _)
 have QX:∀b∈fp,b<s2.heap.objs.size:=fun b hb=>by
  obtain⟨o,ho,_⟩:=T.obj 0 _ st2 b hb;exact gA ho
 generalize e3:({ s2 with heap:=s2.heap.push { cls:=.type "list",data:=.seq ([]:List Value).toArray },toks:=s2.toks }:Shared)=s3 at I3
 have e3':({ s2 with heap:=s2.heap.push { cls:=.type "list",dict:=none,data:=.seq ([]:List Value).toArray } }:Shared)=s3:=e3
 have RB:s3.heap.objs.size=s2.heap.objs.size+1:=by rw[<- e3]; exact ux ..
 have st3:tn 0 s3.heap:=T.keep 0 _ _ st2 fun b hb o ho=>by rw[<- e3]; exact gF _ ho
 have QW:∀b∈fp,b<s3.heap.objs.size:=fun b hb=>by rw[RB]; exact CP (QX b hb)
 have f3:∀b∈fp,iW X pins (upd H2 s2.heap.objs.size (.lst [])) b:=fun b hb=>⟨by rw[aL (eF (QX b hb))]; exact(f2 b hb).1,(f2 b hb).2⟩
 generalize V7:upd H2 s2.heap.objs.size (.lst [])=H3 at I3 f3 w0;refine o_ ?_;generalize Px:pushCells (s3.heap.push { cls:=.type "dict",data:=.dict #[] }) sc.names=h1;have hk:∀b o,s3.heap.get? b=some o->h1.get? b=some o:=fun b o q=>by rw[<- Px]; exact pushCells_keeps _ _ b o (gF _ q)
 have hns':h1.Ns s3.heap.objs.size fun _=>none:=by rw[<- Px]; exact(Heap.Ns.new s3.heap (.type "dict")).keeps (pushCells_keeps _ _)
 have I4:Inv (vy X N' sc fp s3 H3) [] (List.replicate nt none++fK js σ) H3 { s3 with heap:=h1,toks:=s3.toks }:=Al I3 f3 QW S (fun {x c} e=>by
  have:=oV sc.names (s3.heap.push { cls:=.type "dict",data:=.dict #[] }) (lV sc X.env) x c (by rw[ux]; exact e)
  rw[Px,ux] at this
  exact this) hns' hk
 have QD:tn 0 h1:=T.keep 0 _ _ st3 fun b hb o ho=>hk b o ho;have stat:∀{H':Hp},(∀b∈fp,H' b=none)->∀b∈fp,iW (vy X N' sc fp s3 H3) [] H' b:=fun hn b hb=>⟨hn b hb,eF (QW b hb),I4.ok.Eb b hb,.inl hb,(I4.ok.Pu b hb).2,fun p hp=>absurd (show p∈([]:List (Addr×Obj)) from hp) (by simp)⟩
 have out:∀{σ':St} {H':Hp} {s':Shared},Inv (vy X N' sc fp s3 H3) [] σ' H' s'->Q (.ref s2.heap.objs.size) H'->compPost (model X.prog X.w) X.A X.xe use Qc (.ref s2.heap.objs.size) s3.heap.objs.size (.ok .next) s':=by
  intro σ' H' s' I' q';obtain⟨m,hn,_⟩:=id I'.loc;have I5:Inv X pins σ H' s':=I3.call' I'.os I'.base I'.hok I'.bare fun b hb=>⟨(f3 b hb).2.2.2.1,(f3 b hb).2.1,(f3 b hb).2.2.2.2.1,(f3 b hb).2.2.2.2.2⟩;exact fin _ _ H' s' I5 (I3.wQ (a_ _) I'.free) ⟨m,hn⟩ q'
 have loop:∀s4:Shared,s4={ s3 with heap:=h1,toks:=s3.toks }->codeAny (model X.prog X.w) X.A (.compLoop (.ListComp elt [⟨tg,iter,ifs,0⟩] sc pos) 0 (.ref it) (.ref s2.heap.objs.size) (compEnvC sc (cellsFrom (s3.heap.objs.size+1) sc.names (lV sc X.env)) s3.heap.objs.size X.env))
   (compPost (model X.prog X.w) X.A X.xe use Qc (.ref s2.heap.objs.size) s3.heap.objs.size) s4:=by
  rintro s4 rfl;refine sO (fun n s'=>∃i ys H',Inv (vy X N' sc fp s3 H3) [] (List.replicate nt none++fK js σ) H' s'/\tn i s'.heap/\(∀b∈fp,H' b=none)/\W i n ys H') ?_ m0 ⟨0,[],H3,I4,QD,fun b hb=>(f3 b hb).1,w0⟩;rintro n s5 ⟨i,ys,H5,I5,Kg,Nv,w5⟩;rcases turn i n ys H5 w5 with⟨stop,qn⟩ | ⟨go,step⟩
  ·refine cu (T.done (vy X N' sc fp s3 H3) rfl rfl rfl hc i [] s5 _ H5 (fun _ _=>False) I5 (stat Nv) Kg stop) fun r s6 qx=>?_;obtain⟨hr,I6⟩:=qx;subst hr;exact out I6 qn
  ·refine cu (T.item (vy X N' sc fp s3 H3) rfl rfl rfl hc i [] s5 _ H5 (fun _ _=>False) I5 (stat Nv) Kg go) fun r s6 qx=>?_;obtain⟨u,hr,q6⟩:=qx;subst hr;refine cu q6 fun _ s7 qx=>?_;obtain⟨y,H7,I7,r7,y7,Lf,Sv⟩:=qx;have Vi:=I7.pinned (stat Sv) (T.obj _ _ Lf);refine cu (hgt fp s3 H3 _ s7 _ H7 y u _ Vi r7 (step y _ y7)) fun _ s8 qx=>?_;obtain⟨σ8,H8,I8,hsh,q8⟩:=qx;refine cu (hif fp s3 H3 _ s8 _ _ _ I8 q8) fun b RD qx=>?_;obtain⟨Wh,N6,Nk⟩:=qx
   have wk:∀k v,(List.replicate nt none++fK js σ)[k]?=some (some v)->σ8[k]?=some (some v):=fun k v e=>by
    by_cases hlt:k<nt
    ·rw[Gb (by rw[uA]; exact hlt),Jj,bj hlt] at e
     cases e
    ·rw[Gd (by rw[uA]; omega),uA,<- hsh.1,List.getElem?_drop] at e
     rw[show nt+(k-nt)=k by omega] at e
     exact e
   cases b with
   | true=>
    rw[bj rfl] at Nk ⊢;refine cu (he fp s3 H3 _ RD _ _ _ N6 Nk) fun z s9 qx=>?_;obtain⟨vz,H9,I9,r9,ha,hz,m',hm,w9⟩:=qx;refine cu (jc (X:=vy X N' sc fp s3 H3) _ s9 _ H9 (.ref s2.heap.objs.size) [vz] (.ref s2.heap.objs.size) [z] (fun _ H'=>H'=upd H9 s2.heap.objs.size (.lst (ys++[vz]))) I9 rfl (.cons r9 .nil) ⟨_,ys,vz,rfl,rfl,ha,hz,rfl⟩) fun _ zA qx=>?_;obtain⟨_,Il,Qn,_,e10⟩:=qx;subst e10;refine⟨m',hm,i+1,ys++[vz],_,(Qn.ie).weak hsh.2.symm wk,T.keep _ _ _ Lf fun b hb o e=>(Qn.pin (b,o) (jl _ (jl _ (dW hb e)))).1,fun b hb=>?_,w9⟩;obtain⟨o,e,d⟩:=T.obj _ _ Lf b hb;exact(Qn.pin (b,o) (jl _ (jl _ (dW hb e)))).2.1
   | false=>
    rw[bB (by decide)] at Nk ⊢
    obtain⟨m',hm,w9⟩:=Nk;refine⟨m',hm,i+1,ys,_,(N6.ie).weak hsh.2.symm wk,T.keep _ _ _ Lf fun b hb o e=>(N6.pin (b,o) (jl _ (jl _ (dW hb e)))).1,fun b hb=>?_,w9⟩;obtain⟨o,e,d⟩:=T.obj _ _ Lf b hb;exact(N6.pin (b,o) (jl _ (jl _ (dW hb e)))).2.1
 exact codeAny_compStart_list (loop _ rfl) (T.self X.A 0 _ _ _ QD (loop _ rfl))
theorem Dn {X:Cx} {elt iter tg:Expr} {ifs:List Expr} {g:TG} {tc:TT} {nt:Nat} {pos:Pos} {sc:Scope} {wi:TI} {te:TE} {N':List Str} {js:List Nat} (hc:X.calm=true) (hi:PI X tg iter wi) (S:Hk X nt N' js sc)
  (hgt:∀fp s H,PG (vy X N' sc fp s H) tg g) (hif:∀fp s H,Bm (vy X N' sc fp s H) ifs tc) (he:∀fp s H,PE (vy X N' sc fp s H) elt te) (hs:∀x,foldedSetIterable iter X.env x=pure x:=by intro _; rfl):PE X (.ListComp elt [⟨tg,iter,ifs,0⟩] sc pos) (kZ nt js wi g tc te):=by
 refine .mk ?_;intro pins s σ H Q I h;rw[eval_ListComp];refine xn (use:=none) hc hi S hgt hif he hs I h fun acc C H' s' I5 fc ⟨m,hn⟩ q=>?_;refine⟨m,hn,fun h' sb=>?_⟩;exact⟨.ref acc,H',I5.turned (it:=C) (t':=s'.toks) (fun b o hb q=>sb.extBut b o hb q) fc.1 fc.2.1 fc.2.2.2.1 fc.2.2.2.2.1 fc.2.2.2.2.2,rfl,q⟩
theorem uD {X:Cx} {elt iter tg:Expr} {ifs:List Expr} {g:TG} {tc:TT} {nt:Nat} {pos:Pos} {sc:Scope} {wi:TI} {te:TE} {N':List Str} {js:List Nat} (hc:X.calm=true) (hi:PI X tg iter wi) (S:xV X nt N' js sc)
  (hgt:∀fp s H,PG (Kp X N' sc fp s H) tg g) (hif:∀fp s H,Bm (Kp X N' sc fp s H) ifs tc) (he:∀fp s H,PE (Kp X N' sc fp s H) elt te) (hs:∀x,foldedSetIterable iter X.env x=pure x:=by intro _; rfl):PE X (.ListComp elt [⟨tg,iter,ifs,0⟩] sc pos) (kZ nt js wi g tc te):=Dn hc hi S.toD (fun fp s H=>Ef S.lO▸hgt fp s H) (fun fp s H=>Ef S.lO▸hif fp s H) (fun fp s H=>Ef S.lO▸he fp s H) hs
theorem tV.toG {X:Cx} {N':List Str} {js:List Nat} {sc:Scope} (S:tV X N' js sc):xV X 1 N' js sc:=⟨S.kind,S.lO,S.names,S.clos,S.all,by rw[S.len,Nat.add_comm],fun i j h=>by rw[Nat.add_comm]; exact S.cap i j h,fun y h=>S.Ej y (by rw[<- List.drop_one]; exact h)⟩
theorem Fo {js:List Nat} {wi:TI} {te:TE}:m6 js wi te=kZ 1 js wi (km 0) zq te:=by
 funext σ H Q
 have e:∀(x:V) (H3:Hp) (K1:VK) (K2:Hp->Prop),te (some x::fK js σ) H3 K1=km 0 x (List.replicate 1 none++fK js σ) H3 fun σ' H'=>(σ'.drop 1=fK js σ/\σ'.length=(List.replicate 1 (none:Option V)++fK js σ).length)/\zq σ' H' fun b jg=>if b=true then te σ' jg K1 else K2 jg:=fun x H3 K1 K2=>propext ⟨fun h=>⟨⟨rfl,rfl⟩,h⟩,fun h=>h.2⟩
 unfold m6 kZ;refine lE (wi σ H) (funext fun J=>funext fun H1=>?_);refine propext ⟨fun h acc ha=>?_,fun h acc ha=>?_⟩
 ·obtain⟨W,h0,hs⟩:=h acc ha;refine⟨W,h0,fun i m ys H2 w=>(hs i m ys H2 w).imp id fun z=>⟨z.1,fun x H3 y=>?_⟩⟩;have:=z.2 x H3 y;rw[e x H3 _ fun jg=>∃m',m'<m/\W (i+1) m' ys jg] at this;exact this
 ·obtain⟨W,h0,hs⟩:=h acc ha;refine⟨W,h0,fun i m ys H2 w=>(hs i m ys H2 w).imp id fun z=>⟨z.1,fun x H3 y=>?_⟩⟩;rw[e x H3 _ fun jg=>∃m',m'<m/\W (i+1) m' ys jg];exact z.2 x H3 y
theorem eX {X:Cx} {elt iter:Expr} {x:Str} {px pos:Pos} {sc:Scope} {wi:TI} {te:TE} {N':List Str} {js:List Nat} (hc:X.calm=true) (hi:PI X (.Name x px) iter wi) (S:tV X N' js sc) (h0:N'[0]?=some x) (nd:N'.Nodup)
  (hx:sc.names.lookup x=some .local) (he:∀fp s H,PE (Kp X N' sc fp s H) elt te) (hs:∀x,foldedSetIterable iter X.env x=pure x:=by intro _; rfl):PE X (.ListComp elt [⟨.Name x px,iter,[],0⟩] sc pos) (m6 js wi te):=by
 rw[Fo];exact uD hc hi S.toG (fun _ _ _=>aV nd h0 (.inl (zO hx)) (.inr (zO hx))) (fun _ _ _=>yF) he hs
theorem xV.of {X:Cx} {nt:Nat} {N':List Str} {js:List Nat} {sc:Scope} (k:sc.kind=.function:=by rfl) (n:(sc.names.all fun y=>y.2 != .cell)=true:=by decide +kernel)
  (l:(sc.names.all fun y=>y.2 != .local || sc.names.lookup y.1==some .local)=true:=by decide +kernel) (al:(sc.names.all fun y=>y.2 != .free || (X.env.cells.lookup y.1).isSome)=true:=by rfl)
  (ln:N'.length=nt+js.length:=by rfl) (cp:(N'.drop nt).map some=js.map (fun j=>X.N[j]?):=by rfl) (ck:((N'.drop nt).all fun y=>X.env.kindOf y==some .cell&&sc.names.lookup y==some .free)=true:=by rfl):xV X nt N' js sc:=by
 have n':∀y∈sc.names,y.2≠.cell:=fun y hy=>by have:=iC.mp n y hy; simpa using this
 refine⟨k,n',j_ l,gM al,al,ln,fun i j h=>?_,fun y h=>?_⟩
 ·have:=lE (fun l=>l[i]?) cp;simp only[gU,List.getElem?_drop,h,Option.map_some] at this;cases e:N'[nt+i]? with
  | none=>rw[e] at this; cases this
  | some y=>rw[e] at this; exact Option.some.inj this
 ·have:=iC.mp ck y h;simpa using this
section
variable {prog:Program} {w:World} {A:Around} {E:Value->Shared->Prop} {s:Shared}
theorem _root_.PySem.Heap.ExtBut.trans' {b:Addr} {h h1 h2:Heap} (x:Heap.ExtBut b h h1) (y:∀c o,h1.get? c=some o->h2.get? c=some o):Heap.ExtBut b h h2:=fun c o n e=>y c o (x c o n e)
end
section
variable {X:Cx}
end
structure Wd (z TI TO i1 i2:Addr) (f1 f2:List Addr):Prop where
 a1:TI≠z
 a2:TO≠z
 a3:TI≠TO
 a4:i1≠z
 a5:i2≠z
 a6:TO≠i1
 a7:TO≠i2
 a8:i1≠i2
 b1:z∉f1
 b2:z∉f2
 b3:TO∉f1
 b4:TO∉f2
 b5:i1∉f2
 b6:i2∉f1
section
variable {prog:Program} {w:World} {A:Around} {E:Value->Shared->Prop} {s:Shared}
end
structure Vg where
 Sq:PySem.W.Frag->Hp->Addr->List V->Prop
 It:Heap->Addr->Addr->Nat->Prop
 Pl:Heap->Addr->Array Value->Prop
 obj:∀{h:Heap} {i a:Addr} {n:Nat},It h i a n->∃o,h.get? i=some o/\∀v,o.data≠.cell v
 keep:∀{h h':Heap} {i a:Addr} {n:Nat},It h i a n->(∀o,h.get? i=some o->h'.get? i=some o)->It h' i a n
 inv:∀{X:Cx} {pins:List (Addr×Obj)} {σ:St} {H:Hp} {s:Shared} {a:Addr} {xs:List V},Inv X pins σ H s->Sq X.K H a xs->∃us:List Value,Vals xs us/\Pl s.heap a us.toArray
 inj:∀{X:Cx} {pins:List (Addr×Obj)} {σ:St} {H:Hp} {s:Shared} {a:Addr} {xs ys:List V},Inv X pins σ H s->Sq X.K H a xs->Sq X.K H a ys->xs=ys
 ne:∀{X:Cx} {pins:List (Addr×Obj)} {σ:St} {H:Hp} {s:Shared} {a b:Addr} {xs:List V},Inv X pins σ H s->Sq X.K H a xs->iW X pins H b->a≠b
 dr:∀{prog:Program} {w:World} {A:Around},A.handled=none->∀{i a:Addr},a≠i->∀us:Array Value,Draws prog w A i [i,a] us.size (fun n v=>us[n]?=some v) (fun n h=>It h i a n/\Pl h a us)
structure Va (k1 k2:Vg) (z TI TO i1 i2 a b:Addr) (i:Nat) (h:Heap):Prop where
 z:IsZip h z TI TO .none
 p:IsPair h TI (.ref i1) (.ref i2)
 o:∃x y,IsPair h TO x y
 l:k1.It h i1 a i
 r:k2.It h i2 b i
section
variable {X:Cx}
end
abbrev two (elt t1 i1 t2 i2:Expr) (sc:Scope) (pos:Pos):Expr:=.ListComp elt [⟨t1,i1,[],0⟩,⟨t2,i2,[],0⟩] sc pos
section
variable {prog:Program} {w:World} {A:Around} {R:Result->Shared->Prop} {s:Shared} {elt t1 i1 t2 i2:Expr} {sc:Scope} {pos:Pos} {it acc:Value} {env:Env}
end
theorem jb {X:Cx} {K:PySem.W.Frag} {pos:Pos} {es:List Expr} {k:Nat} {t:Es} {n:Nat} (hK:X.K=K) (hc:X.calm=true) (h:J8 X es t)
  (hn:(assignEach es X.env).length=n:=by rfl) (hst:(assignEach es X.env).findIdx? (·.1)=none:=by rfl):PG X (.Tuple es k pos) (JQ K n t):=by
 subst hK;exact Jo hc h hn hst
theorem j4 {X:Cx} {K:PySem.W.Frag} {tg l:Expr} {tl:TE} (hK:X.K=K) (hl:PE X l tl):PI X tg l (JP K tl):=by
 subst hK;exact Jm hl
theorem Di {X:Cx} {K:PySem.W.Frag} {tg l:Expr} {tl:TE} (hK:X.K=K) (hl:PE X l tl):PI X tg l (DX K tl):=by
 subst hK;exact Gm hl
section
variable {X:Cx} {pins:List (Addr×Obj)} {σ:St} {H:Hp} {s:Shared} {A:Around} {E:Value->Shared->Prop} {Q:Value->Shared->Prop} {b:Bool}
end
section
variable {X:Cx}
end
section
variable {X:Cx}
end
abbrev TJ:=Str->St->Hp->(Str->Hp->Prop)->Prop
section
variable {X:Cx}
structure PJ (X:Cx) (es:List Expr) (t:TJ):Prop where
 mk ::
 go:∀(acc:Str) (pins:List (Addr×Obj)) (s:Shared) (σ:St) (H:Hp) (R:Str->Hp->Prop),Inv X pins σ H s->t acc σ H R ->
  Joins (model X.prog X.w) X.A X.xe (evalEach es X.env) acc (fun out s'=>∃H',Inv X pins σ H' s'/\R out H') s
end
def tx (l:List Nat):Str:=⟨l.toArray⟩
section
variable {X:Cx}
end
end L2
namespace L2
open PySem
structure Pl (n:Nat) (d:PyData):Prop where
 hd:d.hasDict=false
 cl:d.canLay0=true
 dp:d.depth<=n
end L2
namespace L2
open PySem PySem.Spec PyProof.Rows
def Kd (h:Heap) (e:Addr) (cls:Value) (T:Addr):Prop:=∃oe vs,h.get? e=some oe/\(oe.cls=cls/\oe.dict=none)/\oe.data=.fields vs/\vs[1]?=some (.ref T)/\vs[2]?=some .none
def J6 (h:Heap) (T:Addr):Prop:=∃oT ts,h.get? T=some oT/\oT.data=.fields ts/\ts[3]?=some .none
structure Rj (fs:List Addr) (h h':Heap) (e T:Addr) (cls:Value):Prop where
 keep:∀b o,b≠e->b∉fs->h.get? b=some o->h'.get? b=some o
 slot:∀b o,b≠e->h.get? b=some o->∃sl,h'.get? b=some { o with slots:=sl }
 fresh:h.objs.size<=T
 ex:Kd h' e cls T
 tb:J6 h' T
section
variable {M:Model} {A:Around} {E:Value->Shared->Prop} {s:Shared}
structure Qj (fs:List Addr) (h h':Heap) (e T0 T:Addr) (cls:Value):Prop where
 keep:∀b o,b≠e->b≠T0->b∉fs->h.get? b=some o->h'.get? b=some o
 slot:∀b o,b≠e->b≠T0->h.get? b=some o->∃sl,h'.get? b=some { o with slots:=sl }
 old:∃o,h'.get? T0=some o
 fresh:h.objs.size<=T
 ex:Kd h' e cls T
 tb:J6 h' T
end
section
variable {P:Program} {w:World} {H H':Hp} {h h':Heap} {a:Addr} {o:HO}
theorem bD.there (x:bD P w H h a o):∃u,h.get? a=some u:=by
 cases o with
 | lst xs=>obtain⟨_,_,_,_,e⟩:=x; exact⟨_,e⟩
 | tup xs=>obtain⟨_,_,_,ob,e,_⟩:=x; exact⟨_,e⟩
 | dK kvs=>obtain⟨_,_,_,_,o,_,_,e,_⟩:=x; exact⟨_,e⟩
 | dT kvs=>obtain⟨_,_,_,_,o,_,_,e,_⟩:=x; exact⟨_,e⟩
 | set S n=>obtain⟨o,_,_,_,e,_⟩:=x; exact⟨_,e⟩
 | ins C dx fs=>obtain⟨_,_,_,e,_⟩:=x; exact⟨_,e⟩
 | own y=>exact x
 | xd fs=>obtain⟨_,⟨_,_,_,e,_⟩,_⟩:=x; exact⟨_,e⟩
 | Nj lo hi=>obtain⟨_,_,_,e⟩:=x; exact⟨_,e⟩
 | vq ob u=>obtain⟨e,_⟩:=x; exact⟨_,e⟩
 | Hs ps=>exact⟨_,(show h.get? a=some _ from x)⟩
 | met f y=>exact⟨_,(show h.get? a=some _ from x)⟩
 | ext φ=>obtain⟨_,e,_⟩:=x; exact e
theorem gr.none (x:gr P w H h) (e:h.get? a=none):H a=none:=by
 cases q:H a with
 | none=>rfl
 | some u=>
  obtain⟨v,z⟩:=(x a u q).there;rw[e] at z; cases z
def Vo (e:Addr) (cls:Value) (T:Addr):HO:=.ext fun h=>Kd h e cls T
def Vb (T:Addr):HO:=.ext fun h=>J6 h T
theorem gr.ext (x:gr P w H h) (S:Addr->Prop) (k:∀b u v,H b=some u->¬S b->h.get? b=some v->h'.get? b=some v) (hs:∀b,S b->H b=Option.none\/∃φ,H b=some (.ext φ))
  (o1:∀b,¬S b->H' b=H b) (o2:∀b u,S b->H' b=some u->bD P w H' h' b u):gr P w H' h':=fun b u e=>by
 by_cases z:S b
 ·exact o2 b u z e
 ·rw[o1 b z] at e;refine(x b u e).stay (fun c v q y=>?_) (fun c q=>?_) (fun c xs q=>?_)
  ·rcases q with q | q
   ·subst q; exact k c u v e z y
   ·exact k c _ v q (fun y'=>(hs c y').elim (fun n=>by rw[n] at q; cases q) fun⟨φ,n⟩=>by rw[n] at q; cases q) y
  ·rw[o1 c fun y'=>(hs c y').elim (fun n=>by rw[n] at q; cases q) fun⟨φ,n⟩=>by rw[n] at q; cases q]; exact q
  ·rw[o1 c fun y'=>(hs c y').elim (fun n=>by rw[n] at q; cases q) fun⟨φ,n⟩=>by rw[n] at q; cases q]; exact q
end
def N8 (P:Program) (w:World):Bp:=fun outer H s E e s'=>∃(a T:Addr) (cls:Value) (H':Hp),e=.ref a/\s'.os=s.os/\AllBare s'.gens/\Un (frs outer) [] H H' s.heap s'.heap/\gr P w H' s'.heap /\
 H' a=some (Vo a cls T)/\H' T=some (Vb T)/\T≠a/\(s.heap.get? a=none/\s.heap.get? T=none)/\E cls none H'
section
variable {P:Program} {w:World} {K:PySem.W.Frag} {mg:Str->Option Value} {base:Heap} {N:List Str} {qual:Str} {scope:Scope} {f:Addr} {cd:Value} {A:Around} {outer:List Env} {s0:Shared} {H0:Hp} {E:XK}
end
def y_:List Value:=[.type "ValueError",.type "Exception",.type "BaseException",.type "object"]
structure Rn (K:PySem.W.Frag) (mg:Str->Option Value) (x:Str) (C:Addr):Prop where
 bound:mg x=some (.ref C)
 ok:PySem.W.excIn K C y_ "ValueError.__new__" = true
theorem Rn.obj {K:PySem.W.Frag} {C:Addr} {h:Heap} (X:K.In h) (q:PySem.W.excIn K C y_ "ValueError.__new__" = true) :
  ∃bm N nm qn bs hdct sn sub ab col dd k0 k1 k2 k3 k5 mN,h.get? C=some (excClassObj nm qn C N bs bm hdct sn sub ab col dd k0 k1 k2 k3 k5 "ValueError.__new__")/\h.Ns N mN/\mN "__init__" = none/\OwnTail h y_ bm:=by
 unfold PySem.W.excIn at q;split at q
 ·rename_i dd cd sl ho;split at q
  ·rename_i C' bm k0 k1 k2 k3 n k5 hm hs;simp only[lG,beq_iff_eq,Bool.not_eq_true'] at q;obtain⟨⟨⟨⟨⟨rfl,rfl⟩,a1⟩,a2⟩,a3⟩,a4⟩:=q;cases cd with
   | mk nm bs mro ns qn hd sn sub ab col del=>
    dsimp only at hm a1 a3 a4;subst hm a1;obtain⟨l⟩:=sl;have e:l=[k0,k1,k2,k3,some (.builtin "ValueError.__new__"),k5]:=hs;subst e;exact⟨bm,ns,nm,qn,bs,hd,sn,sub,ab,col,dd,k0,k1,k2,k3,k5,_,X _ _ ho,.of_isNs (PySem.W.isNs_of_in X a3),PySem.W.nsMap_none_of_in X a3 a4,PySem.W.tail_of_in X a2⟩
  ·cases q
 ·cases q
section
variable {P:Program} {w:World} {K:PySem.W.Frag} {mg:Str->Option Value} {base:Heap} {N:List Str} {qual:Str} {scope:Scope} {f:Addr} {cd:Value} {A:Around} {outer:List Env} {s0:Shared} {H0:Hp} {E:XK}
end
section
variable {X:Cx} {pins:List (Addr×Obj)} {σ:St} {H:Hp} {s:Shared}
end
section
variable {X:Cx} {pins:List (Addr×Obj)} {σ:St} {H:Hp} {s:Shared}
theorem Inv.ext {H':Hp} {h':Heap} (I:Inv X pins σ H s) (S:Addr->Prop) (keep:∀b o,¬S b->b∉frs X.stack->s.heap.get? b=some o->h'.get? b=some o) (slot:∀b o,¬S b->s.heap.get? b=some o->∃sl,h'.get? b=some { o with slots:=sl })
  (there:∀b o,S b->s.heap.get? b=some o->∃o',h'.get? b=some o') (hs:∀b,S b->(H b=none/\s.heap.get? b=none)\/∃φ,H b=some (.ext φ))
  (o1:∀b,¬S b->H' b=H b) (o2:∀b u,S b->H' b=some u->bD X.prog X.w H' h' b u):Inv X pins σ H' { s with heap:=h' }:=by
 have un:∀b o,s.heap.get? b=some o->H b=none->¬S b:=fun b o e n z=>by
  rcases hs b z with⟨_,q⟩ | ⟨φ,q⟩
  ·rw[e] at q; cases q
  ·rw[n] at q; cases q
 have tr:∀b u,H b=some u->(∀φ,u≠.ext φ)->H' b=some u:=fun b u e n=>by
  rw[o1 b fun z=>(hs b z).elim (fun q=>by rw[q.1] at e; cases e) fun⟨φ,q⟩=>by rw[q] at e; cases e; exact n φ rfl]
  exact e
 refine I.call (ch:=[]) (g':=s.gens) (t':=s.toks) (d':=s.drawn) ⟨fun b o e n hb _=>keep b o (un b o e n) hb e,fun b o e n hb _=>slot b o (un b o e n) e,fun b o e n _=>(by rw[o1 b (un b o e n)]; exact n),fun b o e _=>?_,fun b xs e=>tr b _ e (fun φ z=>by cases z),fun b o u e=>tr b _ e (fun φ z=>by cases z),fun b ps e=>⟨#[],(by rw[tr b _ e (fun φ z=>by cases z)]; simp)⟩⟩ ?_ I.bare fun b z=>nomatch z
 ·by_cases z:S b
  ·exact there b o z e
  ·obtain⟨sl,q⟩:=slot b o z e; exact⟨_,q⟩
 ·refine I.hok.ext S (fun b u v e z q=>?_) (fun b z=>(hs b z).elim (fun q=>.inl q.1) .inr) o1 o2;refine keep b v z (fun hm=>?_) q;have:=I.q_ b hm;rw[e] at this; cases this
end
section
variable {X:Cx} {pins:List (Addr×Obj)} {σ:St} {H1:Hp} {s1 s':Shared}
end
section
variable {P:Program} {w:World} {K:PySem.W.Frag} {mg:Str->Option Value} {base:Heap}
structure Wl (P:Program) (w:World) (K:PySem.W.Frag) (mg:Str->Option Value) (base:Heap) (k:Nat) (x:Str) (ps:List Str) (sp:Sp) where
 f:Addr
 fd:FuncData
 G:bI P w K mg base (N8 P w) k f fd ps sp
 kp:PySem.W.keepIn K (.ref f)=true
 b:Binds K fd ps []
 m:mg x=some (.ref f)
end
section
variable {prog:Program} {w:World} {A:Around} {E:Value->Shared->Prop} {s:Shared} {K:PySem.W.Frag} {x D:Addr} {ox:Obj} {od:Option Obj}
structure Wj (K:PySem.W.Frag) (D:Addr):Prop where
 ga:PySem.W.findIn K (.ref D) "__getattribute__" = some (some (.builtin "BaseException.__getattribute__"))
 gt:PySem.W.findIn K (.ref D) "__getattr__" = some none
 fo:PySem.W.findObj K D none "__class__" = some (.bind (.builtin "getset_descriptor.__get__") (.builtin "object.__class__"))
 sb:PySem.W.subIn K (.ref D) (.type "BaseException")=some true
 ob:PySem.W.mroIn K D (.type "object")=some true
end
section
variable {X:Cx}
end
noncomputable instance Nz:DecidableEq PyData:=fun a b=>Classical.propDecidable (a=b)
mutual
def QT:PyData->Bool
 | .int _=>true
 | .tuple ds=>Mh ds
 | _=>false
def Mh:List PyData->Bool
 | []=>true
 | d::ds=>QT d&&Mh ds
end
section
variable {P:Program} {w:World} {K:PySem.W.Frag} {mg:Str->Option Value} {base:Heap} {N:List Str} {qual:Str} {scope:Scope} {f:Addr} {cd:Value} {A:Around} {outer:List Env} {s0:Shared} {H0:Hp} {E:XK}
end
abbrev TX:=St->Hp->VK->(Value->Hp->Hp->Prop)->Prop
abbrev Rh:=Ends->(Value->St->Hp->Hp->Prop)->St->Hp->Prop
def XL (X:Cx) (pins:List (Addr×Obj)) (σ:St) (EE:Value->Hp->Hp->Prop):Value->Shared->Prop:=fun e s'=>∃H1 s1 E',Inv X pins σ H1 s1/\N8 X.prog X.w X.stack H1 s1 E' e s'/\∀cls H2,E' cls none H2->EE cls H1 H2
def Rg (X:Cx) (pins:List (Addr×Obj)) (EE:Value->St->Hp->Hp->Prop):Value->Shared->Prop:=fun e s'=>∃σ1 H1 s1 E',Inv X pins σ1 H1 s1/\N8 X.prog X.w X.stack H1 s1 E' e s'/\∀cls H2,E' cls none H2->EE cls σ1 H1 H2
structure PX (X:Cx) (e:Expr) (t:TX):Prop where
 mk ::
 go:∀(pins:List (Addr×Obj)) (s:Shared) (σ:St) (H:Hp) (Q:VK) (EE:Value->Hp->Hp->Prop),Inv X pins σ H s->t σ H Q EE->wpAny (model X.prog X.w) X.A (eval e X.env) (EP X pins σ Q) (XL X pins σ EE) s
structure Wg (X:Cx) (st:Stmt) (t:Rh):Prop where
 mk ::
 go:∀(pins:List (Addr×Obj)) (s:Shared) (σ:St) (H:Hp) (D:Ends) (EE:Value->St->Hp->Hp->Prop),Inv X pins σ H s->t D EE σ H->wpAny (model X.prog X.w) X.A (exec st X.env) (SP X pins D) (Rg X pins EE) s
structure Ve (X:Cx) (st:List Stmt) (t:Rh):Prop where
 mk ::
 go:∀(pins:List (Addr×Obj)) (s:Shared) (σ:St) (H:Hp) (D:Ends) (EE:Value->St->Hp->Hp->Prop),Inv X pins σ H s->t D EE σ H->wpAny (model X.prog X.w) X.A (execs st X.env) (SP X pins D) (Rg X pins EE) s
section
variable {X:Cx}
end
abbrev jM (K:PySem.W.Frag) (x:Str) (st:Stmt) (f:Addr):Prop:=∃(oc:Value) (od an:Option Addr) (sl:Array (Option Value)) (kV dc pm cd ct:Value),PySem.W.nsIn K mainGlobals x=some (some (.ref f))/\K.lookup f=some ⟨oc,od,.func (PySem.W.fnOf x x (dI st) (dq st) (aF st) .none kV dc pm an cd ct),sl⟩/\PySem.W.codeIn K cd x=true/\PySem.W.keepIn K (.ref f)=true
structure Qo (K:PySem.W.Frag) (mg:Str->Option Value) (x:Str) (st:Stmt) (ps:List Str) where
 f:Addr
 fd:FuncData
 F:iV K x x st f fd
 b:Binds K fd ps []
 m:mg x=some (.ref f)
structure Vk (K:PySem.W.Frag) (mg:Str->Option Value) (x:Str) (st:Stmt) (ps:List Str) (i:Int) where
 f:Addr
 fd:FuncData
 T:Addr
 t:Tok
 F:Qp K x x st f fd T i t
 b:Binds K fd ps []
 bd:Binds K fd ps [.int i t]
 m:mg x=some (.ref f)
section
variable {K:PySem.W.Frag} {h:Heap} {mg:Str->Option Value}
theorem jM.mk {x:Str} {st:Stmt} {f:Addr} {oc:Value} {od an:Option Addr} {sl:Array (Option Value)} {kV dc pm cd ct:Value} (a:PySem.W.nsIn K mainGlobals x=some (some (.ref f))) (l:K.lookup f=some ⟨oc,od,.func (PySem.W.fnOf x x (dI st) (dq st) (aF st) .none kV dc pm an cd ct),sl⟩) (c:PySem.W.codeIn K cd x=true) (k:PySem.W.keepIn K (.ref f)=true):jM K x st f:=⟨oc,od,an,sl,kV,dc,pm,cd,ct,a,l,c,k⟩
theorem jM.has {x:Str} {st:Stmt} {f:Addr} (e:jM K x st f) (X:K.In h) (G:h.Ns mainGlobals mg) {ps:List Str} (H:∀(kV doc pm:Value) (an:Option Addr) (cdv ct:Value) (us:List Value),us.length=ps.length->bindArgs (PySem.W.fnOf x x (dI st) (dq st) (aF st) .none kV doc pm an cdv ct) ⟨us,[]⟩=pure (ps.zip us)):Nonempty (Qo K mg x st ps):=by
 obtain⟨oc,od,an,sl,kV,dc,pm,cd,ct,a,l,c,k⟩:=e;have F:=wO (st:=st) l c k;exact⟨⟨_,_,F,F.binds H,PySem.W.mg_of X G a⟩⟩
def Qo.ct {x:Str} {st:Stmt} {ps:List Str} {k:Nat} {sp:Sp} (h:Qo K mg x st ps) (P:Program) (w:World) (base:Heap) (G:bI P w K mg base gw k h.f h.fd ps sp):Ct P w K mg base k x ps sp:=⟨h.f,h.fd,G,h.F.kp,h.b,h.m⟩
abbrev Nb (K:PySem.W.Frag) (x:Str):Prop:=PySem.W.nsIn K mainGlobals x=some none
abbrev Ni (K:PySem.W.Frag) (x:Str) (i:Int):Prop:=∃t,PySem.W.nsIn K mainGlobals x=some (some (.int i t))
abbrev vp (K:PySem.W.Frag) (x s:Str):Prop:=∃t,PySem.W.nsIn K mainGlobals x=some (some (.str s t))
theorem Ni.mk {x:Str} {i:Int} {t:Tok} (a:PySem.W.nsIn K mainGlobals x=some (some (.int i t))):Ni K x i:=⟨t,a⟩
theorem vp.mk {x s:Str} {t:Tok} (a:PySem.W.nsIn K mainGlobals x=some (some (.str s t))):vp K x s:=⟨t,a⟩
theorem Ni.gi {x:Str} {i:Int} (e:Ni K x i) (X:K.In h) (G:h.Ns mainGlobals mg):Gi mg x i:=let ⟨t,z⟩:=e; ⟨t,PySem.W.mg_of X G z⟩
theorem vp.gs {x s:Str} (e:vp K x s) (X:K.In h) (G:h.Ns mainGlobals mg):Gs mg x s:=let ⟨t,z⟩:=e; ⟨t,PySem.W.mg_of X G z⟩
abbrev NT (K:PySem.W.Frag) (x:Str) (vs:List Value):Prop:=∃(a:Addr) (n:Nat) (sl:Array (Option Value)),PySem.W.nsIn K mainGlobals x=some (some (.ref a))/\K.lookup a=some ⟨.type "tuple",none,.seq vs.toArray n,sl⟩
theorem NT.mk {x:Str} {vs:List Value} {a:Addr} {n:Nat} {sl:Array (Option Value)} (b:PySem.W.nsIn K mainGlobals x=some (some (.ref a))) (l:K.lookup a=some ⟨.type "tuple",none,.seq vs.toArray n,sl⟩):NT K x vs:=⟨a,n,sl,b,l⟩
end
section
variable {X:Cx} {pins:List (Addr×Obj)} {σ:St} {H1:Hp} {s1 s':Shared}
end
section
variable {P:Program} {w:World} {K:PySem.W.Frag} {mg:Str->Option Value} {base:Heap}
structure Wk (P:Program) (w:World) (K:PySem.W.Frag) (mg:Str->Option Value) (base:Heap) (k:Nat) (x:Str) (ps:List Str) (i:Int) (sp:Sp) where
 f:Addr
 fd:FuncData
 t:Tok
 G:bI P w K mg base (N8 P w) k f fd ps sp
 kp:PySem.W.keepIn K (.ref f)=true
 b:Binds K fd ps []
 bd:Binds K fd ps [.int i t]
 m:mg x=some (.ref f)
end
section
variable {X:Cx}
end
section
variable {X:Cx}
end
section
variable {X:Cx}
theorem ud {xs:List V}:∀{us:List Value},Vals xs us->∀{j:Nat} {x:V},xs[j]?=some x->∃u,us[j]?=some u/\RelV x u:=by
 induction xs with
 | nil=>intro us _ j x h; simp at h
 | cons y ys ih=>
  intro us r j x h;cases r with
  | cons r1 r2=>
   cases j with
   | zero=>simp at h; subst h; exact⟨_,rfl,r1⟩
   | succ j=>simp at h; obtain⟨u,h1,h2⟩:=ih r2 h; exact⟨u,by simpa using h1,h2⟩
theorem zb {xs:List V}:∀{us:List Value},Vals xs us->∀{j:Nat} {u:Value},us[j]?=some u->∃x,xs[j]?=some x/\RelV x u:=by
 induction xs with
 | nil=>intro us r j u h; cases r; simp at h
 | cons y ys ih=>
  intro us r j x h;cases r with
  | cons r1 r2=>
   cases j with
   | zero=>simp at h; subst h; exact⟨_,rfl,r1⟩
   | succ j=>simp at h; obtain⟨u,h1,h2⟩:=ih r2 h; exact⟨u,by simpa using h1,h2⟩
end
mutual
theorem At.tupS {H H':Hp} (k:∀b xs,H b=some (.tup xs)->H' b=some (.tup xs)):∀(d:PyData) (v:V),rQ d=true->At H d v->At H' d v
 | .none,_,_,h=>by unfold At at h ⊢; exact h
 | .bool _,_,_,h=>by unfold At at h ⊢; exact h
 | .int _,_,_,h=>by unfold At at h ⊢; exact h
 | .str _,_,_,h=>by unfold At at h ⊢; exact h
 | .tuple ds,v,n,h=>by
  unfold At at h ⊢;obtain⟨a,ys,e,h1,h2⟩:=h;exact⟨a,ys,e,k _ _ h1,aq.tupS k ds ys (by simpa[rQ] using n) h2⟩
 | .list _,_,n,_=>by simp[rQ] at n
 | .dict _,_,n,_=>by simp[rQ] at n
theorem aq.tupS {H H':Hp} (k:∀b xs,H b=some (.tup xs)->H' b=some (.tup xs)):∀(ds:List PyData) (ys:List V),dH ds=true->aq H ds ys->aq H' ds ys
 | [],_,_,h=>by unfold aq at h ⊢; exact h
 | d::ds,ys,n,h=>by
  unfold aq at h ⊢;obtain⟨x,r,e,h1,h2⟩:=h;have n':rQ d=true/\dH ds=true:=by simpa[dH] using n
  exact⟨x,r,e,At.tupS k d x n'.1 h1,aq.tupS k ds r n'.2 h2⟩
end
structure MP (d:PyData):Prop where
 t:∃ds,d=.tuple ds
 k:QT d=true
 dp:d.depth<=8
section
variable {X:Cx} {pins:List (Addr×Obj)} {σ:St} {H:Hp} {s:Shared} {a:Addr} {kvs:List (PyData×V)}
def MT (H:Hp) (d:PyData) (y:V):Prop:=MP d/\At H d y
end
section
variable {X:Cx}
end
section
variable {X:Cx}
end
theorem pP:bootBuiltins "ValueError" = some (.type "ValueError"):=by decide +kernel
section
variable {X:Cx}
end
def JS (bs:List Bool) (j:Nat):Prop:=bs[j]?=some true/\∀m,m<j->bs[m]?≠some true
def Lr:V->List V->Hp->VK->Prop:=fun x xs H Q=>∃(p:Addr) (bs:List Bool) (j:Nat),x=.ref p/\H p=some (.lst (bs.map V.bl))/\xs=[.bl true]/\bs.length<=1000/\JS bs j/\Q (.int (j:Nat)) H
def Ls:V->List V->Hp->VK->Prop:=fun x xs H Q=>∃(p:Addr) (bs:List Bool),x=.ref p/\H p=some (.lst (bs.map V.bl))/\xs=[.bl true]/\Q (.int ((bs.countP id:Nat):Int)) H
section
variable {X:Cx}
def tM:Value->Bool
 | .bool b=>b
 | _=>false
theorem tL {bs:List Bool} {its:List Value} (r:Vals (bs.map V.bl) its) {m:Nat} {u:Value} (hm:its[m]?=some u):∃b,bs[m]?=some b/\u=.bool b:=by
 obtain⟨x,h1,h2⟩:=zb r hm;rw[gU] at h1;cases ha:bs[m]? with
 | none=>rw[ha] at h1; cases h1
 | some a=>
  rw[ha] at h1;cases h1;exact⟨a,rfl,h2⟩
theorem Ig {A:Around} {s:Shared} (b:Bool):SeqAt.EqAt A s (.bool b) (.bool true) (tM (.bool b)):=by
 have:=SeqAt.EqAt.bool_bool (A:=A) (s:=s) b true;have e:(b==true)=tM (.bool b):=by cases b <;> rfl
 rw[e] at this;exact this
theorem wB:N5 X "list.index" Lr:=by
 intro pins s σ H x xs v us Q I rx rv h;obtain⟨p,bs,j,rfl,hp,rfl,hl,⟨hj,hno⟩,q⟩:=h;cases rx;obtain⟨u,rfl,ru⟩:=rv.one;cases(ru:u=.bool true);obtain⟨_,its,n,r,e⟩:=I.hok p _ hp
 have ee:∀y,y∈its.toArray->SeqAt.EqAt X.A.in1 s y (.bool true) (tM y):=fun y hy=>by
  obtain⟨m,hm⟩:=List.mem_iff_getElem?.mp (List.mem_toArray.mp hy);obtain⟨b,_,rfl⟩:=tL r hm;exact Ig b
 obtain⟨u,hu,ru⟩:=ud r (x:=.bl true) (by rw[gU,hj]; rfl)
 cases(ru:u=.bool true);have hlt:j<its.length:=(lL.mp hu).1;have hlen:its.length=bs.length:=by rw[<- r.length,jh]
 refine call_meets PySem.F.slot_list_index ⟨_,e,rfl⟩ PySem.F.entry_list_index (PySem.F.args_list_index_2 _ _) (SeqAt.list_indexAt p its.toArray n none #[] (.bool true) tM j (by simpa using hlt) (by omega) ?_ ?_) ⟨e,ee,?_⟩
 ·have:=(lL.mp hu).2;show tM its[j]=true;rw[this];rfl
 ·intro m hm h;have hm':m<its.length:=by simpa using hm
  obtain⟨b,h1,h2⟩:=tL r (pB hm');show tM its[m]=false;rw[h2];show b=false;have:=hno m h;rw[h1] at this;simpa using this
 ·exact⟨.int (j:Nat),H,I.tok _,⟨_,rfl⟩,q⟩
theorem Ei:∀{bs:List Bool} {its:List Value},Vals (bs.map V.bl) its->its.countP tM=bs.countP id
 | [],_,.nil=>rfl
 | b::bs,_,.cons r t=>by
  cases(r:_=Value.bool b);rw[List.countP_cons,List.countP_cons,Ei t];rfl
theorem wC:N5 X "list.count" Ls:=by
 intro pins s σ H x xs v us Q I rx rv h;obtain⟨p,bs,rfl,hp,rfl,q⟩:=h;cases rx;obtain⟨u,rfl,ru⟩:=rv.one;cases(ru:u=.bool true);obtain⟨_,its,n,r,e⟩:=I.hok p _ hp
 have ee:∀y,y∈its.toArray->SeqAt.EqAt X.A.in1 s y (.bool true) (tM y):=fun y hy=>by
  obtain⟨m,hm⟩:=List.mem_iff_getElem?.mp (List.mem_toArray.mp hy);obtain⟨b,_,rfl⟩:=tL r hm;exact Ig b
 refine call_meets PySem.F.slot_list_count ⟨_,e,rfl⟩ PySem.F.entry_list_count (PySem.F.args_list_count_2 _ _) (SeqAt.list_countAt p its.toArray n none #[] (.bool true) tM) ⟨e,ee,?_⟩;exact⟨.int ((bs.countP id:Nat):Int),H,I.tok _,⟨s.toks,by rw[<- Ei r]⟩,q⟩
end
section
variable {X:Cx}
end
section
variable {X:Cx}
end
section
variable {X:Cx}
end
section
variable {prog:Program} {w:World} {A:Around} {E:Value->Shared->Prop} {s:Shared}
theorem GP:typeLookup (.type "list") "keys" = pure none:=by rw[typeLookup_type,builtinLookup_eq_fast]; kernel_rfl
theorem Ag {a:Addr} {xs:Array Value} {k:Nat} {sl:Array (Option Value)} {Q:Option Value->Shared->Prop} (hx:s.heap.get? a=some { cls:=.type "list",dict:=none,data:=.seq xs k,slots:=sl }) (hA:A.handled=none)
  (h:∀h' tk,(∀b o,s.heap.get? b=some o->h'.get? b=some o)->Q none { s with heap:=h',toks:=tk }):wpAny (model prog w) A (getAttr? (.ref a) "keys") Q E s:=by
 obtain⟨hp,g,d,tk,os⟩:=s;have hT:∀tk',(⟨hp,g,d,tk',os⟩:Shared).TypeIs (.ref a) "list" := fun _=>⟨_,hx,rfl⟩;have f1:=sub_AttributeError;have f3:=F.slot_list_getattribute.lookup;have f4:=F.slot_list_getattribute.bind (.ref a);have f5:=am_list_getattr_none;unfold getAttr? getAttrBy? getAttrBy
 repeat (any_goals (first | assumption | exact hT _ | ((with_reducible show wpAny _ _ (call (Value.builtin "list.__getattribute__") _ _) _ _ _); refine call_meets F.slot_list_getattribute (hT _) am_entry_list_getattribute (F.args_list_getattribute_2 _ _) (meets_getattribute_miss_list a xs k sl "keys" _ GP (by decide +kernel)) ⟨hx,hA,fun h' tk' e hx'=>?_⟩) | wp_step))
 obtain⟨t',u',he⟩:=hx'.there;show wpAny _ _ (getattributeRaised _ _ _ _ _ _ _) _ _ _;unfold getattributeRaised
 repeat (any_goals (first | assumption | wp_step))
 exact h _ _ fun b o e=>hx'.keeps b o e
end
structure NQ (H:Hp) (xs:List V) (kvs:List (PyData×V)):Prop where
 n:xs.length=kvs.length
 p:∀(i:Nat) (x:V) (q:PyData×V),xs[i]?=some x->kvs[i]?=some q->∃t y,x=.ref t/\H t=some (.tup [y,q.2])/\MT H q.1 y
theorem iY:plainId "dict.update.loop" = true:=by decide +kernel
theorem pX:entryFor table "dict.update.loop" = some Builtin.«dict.update.loop»:=entryFor_of_tree (by kernel_rfl)
section
variable {X:Cx} {pins:List (Addr×Obj)} {σ:St}
end
section
variable {X:Cx}
end
end L2
namespace L2
open PySem PySem.Spec PyProof.Rows PySem.SeqAt
theorem eO (l:Addr) (es:Array DictEntry) (n:Nat) (dd:Option Addr) (sl:Array (Option Value)) (b:Str) (u:Tok) :
  Meets (Builtin.«dict.__eq__» ⟨[.ref l,.str b u],[]⟩) (fun _ R s=>s.heap.get? l=some { cls:=.type "dict",dict:=dd,data:=.dict es n,slots:=sl }/\R (.ok (.ret .notImplemented)) s):=
 .of_wp fun prog w A R s h=>by obtain⟨hp,g,d,tk,os⟩:=s; obtain⟨hl,h⟩:=h; have f1:=F.sub_str_dict; wp_walk using wpAny_loadPart' hl; exact⟨_,rfl,h⟩
theorem d9 (b:Str) (u:Tok) (l:Addr) (c:Value) (es:Array DictEntry) (n:Nat) (dd:Option Addr) (sl:Array (Option Value)) :
  Meets (Builtin.«str.__eq__» ⟨[.str b u,.ref l],[]⟩) (fun _ R s=>s.heap.get? l=some { cls:=c,dict:=dd,data:=.dict es n,slots:=sl }/\R (.ok (.ret .notImplemented)) s):=
 .of_wp fun prog w A R s h=>by obtain⟨hp,g,d,tk,os⟩:=s; obtain⟨hl,h⟩:=h; wp_walk using wpAny_loadPart' hl,wpAny_load hl; exact⟨_,rfl,h⟩
section
variable {A:Around} {s:Shared}
def yR (h:Heap) (l:Addr):Prop:=∃dd es n sl,h.get? l=some { cls:=.type "dict",dict:=dd,data:=.dict es n,slots:=sl }
theorem uq {l:Addr} (b:Str) (u:Tok) (hl:yR s.heap l) (hu:A.units<cLine):RcAt A s (.ref l) (.str b u) false:=fun prog w E Q h=>by
 obtain⟨dd,es,n,sl,ho⟩:=hl;exact rc_eq_decline_or (k:=false) ⟨_,ho,rfl⟩ (typeIs_str s b u) (by decide) F.sub_str_dict F.slot_dict_eq F.slot_str_eq_refl
  (fun _ hq=>call_meets F.slot_dict_eq ⟨_,ho,rfl⟩ F.entry_dict_eq (F.args_dict_eq_2 _ _) (eO l es n dd sl b u) ⟨ho,hq⟩)
  (fun _ hq=>call_meets F.slot_str_eq_refl (typeIs_str s b u) F.entry_str_eq (F.args_str_eq_2 _ _) (d9 b u l (.type "dict") es n dd sl) ⟨ho,hq⟩)
  (fun _ hq=>wpAny_of_eq (rfl:isSame (.ref l) (.str b u)=pure false) hq) (.inr hu) h
theorem uo {l:Addr} (b:Str) (u:Tok) (hl:yR s.heap l) (hu:A.units<cLine):RcAt A s (.str b u) (.ref l) false:=fun prog w E Q h=>by
 obtain⟨dd,es,n,sl,ho⟩:=hl;exact rc_eq_decline_or (k:=false) (typeIs_str s b u) ⟨_,ho,rfl⟩ (by decide) F.sub_dict_str F.slot_str_eq F.slot_dict_eq_refl
  (fun _ hq=>call_meets F.slot_str_eq (typeIs_str s b u) F.entry_str_eq (F.args_str_eq_2 _ _) (d9 b u l (.type "dict") es n dd sl) ⟨ho,hq⟩)
  (fun _ hq=>call_meets F.slot_dict_eq_refl ⟨_,ho,rfl⟩ F.entry_dict_eq (F.args_dict_eq_2 _ _) (eO l es n dd sl b u) ⟨ho,hq⟩)
  (fun _ hq=>wpAny_of_eq (rfl:isSame (.str b u) (.ref l)=pure false) hq) (.inr hu) h
theorem uU {l:Addr} (b:Str) (u:Tok) (hl:yR s.heap l) (hu:A.units<cLine):EqAt A s (.str b u) (.ref l) false:=fun prog w E Q h=>by
 unfold eqBool;refine jX ?_;refine wpAny_ite_split (fun hab=>absurd (eq_of_beq hab) nofun) (fun _=>?_);exact bJ (uo b u hl hu prog w E _ (nQ h))
end
section
variable {X:Cx}
theorem Ie {P:Program} {w:World} {H:Hp} {h:Heap} {a:Addr} {es:List (Key×V)} (ok:gr P w H h) (e:H a=some (.dK es)):yR h a:=by
 obtain⟨_,_,vs,_,o,es',ep,ho,⟨c,d,s⟩,hd,_⟩:=ok a _ e;obtain⟨cls,dd,data,sl⟩:=o;simp only at c d s hd;subst c d s hd;exact⟨_,_,_,_,ho⟩
theorem zW (hu:X.A.units<cLine):jm X (compareOp .Eq) (fun x y H Q=>∃d t,y=.str t/\At H d x/\Q (.bl (Eu d t)) H):=by
 refine .mk ?_;intro pins s σ H x y v u Q I rx ry h;obtain⟨d,t,rfl,hd,q⟩:=h;by_cases e:yD d=false
 ·obtain⟨g⟩:=Dt (X:=X) hu;exact g pins s σ H x _ v u Q I rx ry ⟨d,t,rfl,hd,e,q⟩
 ·cases d <;> first | (exfalso; exact e rfl) | skip
  obtain⟨tk,rfl⟩:=ry;unfold At at hd;obtain⟨a,es,rfl,ha,_⟩:=hd;cases rx;exact uq t tk (Ie I.hok ha) hu _ _ _ _ (aU I q rfl)
theorem Aw {pins:List (Addr×Obj)} {s:Shared} {σ:St} {H:Hp} {A:Around} (I:Inv X pins σ H s) (hu:A.units<cLine) {d:PyData} {x:V} {v:Value} (hd:At H d x) (rx:RelV x v) (t:Str) (tk:Tok):SeqAt.EqAt A s (.str t tk) v (Eu d t):=by
 by_cases e:yD d=false
 ·exact Av I hu hd rx e t tk
 ·cases d <;> first | (exfalso; exact e rfl) | skip
  unfold At at hd;obtain⟨a,es,rfl,ha,_⟩:=hd;cases rx;exact uU t tk (Ie I.hok ha) hu
theorem j6 {K:PySem.W.Frag} (hK:X.K=K) (hu:X.A.units+64<cLine):jm X (compareOp .NotIn) (fun x y H Q=>∃(d:PyData) (ts:List Str) (p:Addr),y=.ref p/\fH K H p (ts.map V.str)/\At H d x/\Q (.bl (!ts.any (Eu d ·))) H):=by
 subst hK;refine .mk ?_;intro pins s σ H x y v u Q I rx ry h;obtain⟨d,ts,p,rfl,hp,hd,q⟩:=h;cases ry;obtain⟨its,r,pt,_⟩:=I.tuple hp;obtain⟨e1,e2⟩:=uc r;refine SeqAt.notIn_tupleAt (fun y=>Eu d (BW y)) pt (fun y hy=>?_) (aU I q ?_)
 ·obtain⟨t,tk,rfl⟩:=e2 y (by simpa using hy)
  exact Aw I (by show X.A.units+1<cLine; omega) hd rx t tk
 ·rw[<- e1,<- Array.any_toList,List.any_map]; rfl
end
mutual
theorem vL {P:Program} {w:World} {G H:Hp} {h:Heap} (ok:gr P w H h) (sb:aH G H) (ns:∀b xs,G b=some (.lst xs)->b≠sysModules):∀(d:PyData) (v:V) (u:Value),At G d v->RelV v u->∃as,Reads h u d as/\∀b∈as,b≠sysModules
 | .none,v,u,a,r=>by unfold At at a; subst a; cases r; exact⟨_,.none,fun _ z=>nomatch z⟩
 | .bool b,v,u,a,r=>by unfold At at a; subst a; cases r; exact⟨_,.bool b,fun _ z=>nomatch z⟩
 | .int i,v,u,a,r=>by unfold At at a; subst a; obtain⟨t,rfl⟩:=r; exact⟨_,.int i t,fun _ z=>nomatch z⟩
 | .str x,v,u,a,r=>by unfold At at a; subst a; obtain⟨t,rfl⟩:=r; exact⟨_,.str x t,fun _ z=>nomatch z⟩
 | .tuple ds,v,u,a,r=>by
  unfold At at a;obtain⟨p,xs,e,hp,ha⟩:=a;subst e;cases r;obtain⟨_,its,rv,o,e1,e2,n,e3⟩:=ok p _ (sb _ _ hp);obtain⟨as,ra,hb⟩:=jD ok sb ns ds xs its ha rv;exact⟨_,.tuple e1 e2 e3 (by simpa using ra),hb⟩
 | .list ds,v,u,a,r=>by
  unfold At at a;obtain⟨p,xs,e,hp,ha⟩:=a;subst e;cases r;obtain⟨_,its,n,rv,e1⟩:=ok p _ (sb _ _ hp);obtain⟨as,ra,hb⟩:=jD ok sb ns ds xs its ha rv;refine⟨_,.list e1 rfl rfl (by simpa using ra),fun b z=>?_⟩
  rcases jE.mp z with z | z
  ·subst z; exact ns _ _ hp
  ·exact hb b z
 | .dict kvs,v,u,a,r=>by
  unfold At at a;obtain⟨p,es,e,hp,ha⟩:=a;subst e;cases r;obtain⟨_,R7,vs,kv,o,es',ep,ho,⟨c,_,_⟩,hd,_,pr,_⟩:=ok p _ (sb _ _ hp);obtain⟨as,bs,r1,r2,b2⟩:=qe ok sb ns kvs es vs es'.toList ha kv pr;refine⟨_,.dict ho c hd r1 r2,fun b z=>?_⟩;rcases mJ.mp z with z | z
  ·rcases jE.mp z with z | z
   ·subst z; exact beq_eq_false_iff_ne.mp R7
   ·exact b2 b (FZ _ z)
  ·exact b2 b (jl _ z)
theorem jD {P:Program} {w:World} {G H:Hp} {h:Heap} (ok:gr P w H h) (sb:aH G H) (ns:∀b xs,G b=some (.lst xs)->b≠sysModules):∀(ds:List PyData) (xs:List V) (us:List Value),aq G ds xs->Vals xs us->∃as,ReadsAll h us ds as/\∀b∈as,b≠sysModules
 | [],xs,us,a,r=>by unfold aq at a; subst a; cases r; exact⟨_,.nil,fun _ z=>nomatch z⟩
 | d::ds,xs,us,a,r=>by
  unfold aq at a;obtain⟨x,t,e,h1,h2⟩:=a;subst e;cases r with
  | cons r1 r2=>
   obtain⟨as,q1,z1⟩:=vL ok sb ns d x _ h1 r1;obtain⟨bs,q2,z2⟩:=jD ok sb ns ds t _ h2 r2;exact⟨_,.cons q1 q2,fun b z=>(mJ.mp z).elim (z1 b) (z2 b)⟩
theorem qe {P:Program} {w:World} {G H:Hp} {h:Heap} (ok:gr P w H h) (sb:aH G H) (ns:∀b xs,G b=some (.lst xs)->b≠sysModules):∀(kvs:List (PyData×PyData)) (es:List (Key×V)) (vs:List (Key×Value)) (os:List DictEntry),g_ G kvs es->KV es vs->Pairs (cC P w) os vs ->
  ∃as bs,ReadsAll h (os.map (·.key)) (kvs.map (·.1)) as/\ReadsAll h (os.map (·.val)) (kvs.map (·.2)) bs/\∀b∈as++bs,b≠sysModules
 | [],es,vs,os,a,r,p=>by unfold g_ at a; subst a; cases r; cases p; exact⟨[],[],.nil,.nil,fun _ z=>nomatch z⟩
 | (k,d)::kvs,es,vs,os,a,r,p=>by
  unfold g_ at a;obtain⟨q,v,t,e,ek,h1,h2⟩:=a;subst e;cases r with
  | cons r1 r2=>
   cases p with
   | cons p1 p2 p3=>
    rename_i kv vs' oe os';obtain⟨e1,rv⟩:=r1;obtain⟨as,bs,q1,q2,z2⟩:=qe ok sb ns kvs t _ _ h2 r2 p3;obtain⟨cs,q3,z3⟩:=vL ok sb ns d v kv.2 h1 rv
    have hk:∃c,Reads h oe.key k c/\c=[]:=by
     have e2:q=kv.1:=e1;rw[<- e2] at p1;subst ek;rcases bG p1 with⟨i,t,rfl,e⟩ | ⟨x,t,rfl,e⟩
     ·rw[e]; exact⟨_,.int i t,rfl⟩
     ·rw[e]; exact⟨_,.str x t,rfl⟩
    obtain⟨c,hc,ec⟩:=hk;subst ec;refine⟨_,_,.cons hc q1,.cons (p2▸q3) q2,fun b z=>?_⟩;rcases mJ.mp z with z | z
    ·exact z2 b (FZ _ (by simpa using z))
    ·rcases mJ.mp z with z | z
     ·exact z3 b z
     ·exact z2 b (jl _ z)
end
structure Wt (D M:Nat) (d:PyData):Prop where
 can:d.showable=true
 len:d.shown.length<=M
 dep:d.depth<=D
structure aR (D M:Nat) (ds:List PyData):Prop where
 can:PyData.showableAll ds=true
 len:((PyData.shownAll ds).map (·.length)).sum+2*(PyData.shownAll ds).length<=M
 dep:PyData.depthAll ds<=D
theorem Wt.mono {D D' M M':Nat} {d:PyData} (h:Wt D M d) (h1:D<=D') (h2:M<=M'):Wt D' M' d:=⟨h.can,dC h.len h2,dC h.dep h1⟩
theorem aR.mono {D D' M M':Nat} {d:List PyData} (h:aR D M d) (h1:D<=D') (h2:M<=M'):aR D' M' d:=⟨h.can,dC h.len h2,dC h.dep h1⟩
theorem fL.wt {b D M:Nat} {d:PyData} (h:fL b D M d) (hb:b<10 ^ 60):Wt D M d:=by
 obtain⟨h1,h2,h3⟩:=oN hb d h.f;exact⟨h1,dC h3 h.m,h.dp⟩
theorem aR.nil {D:Nat}:aR D 0 []:=⟨rfl,a_ _,fW _⟩
theorem aR.cons {D M M':Nat} {d:PyData} {ds:List PyData} (h:Wt D M d) (t:aR D M' ds):aR D (M+2+M') (d::ds):=by
 have h1:=h.len; have h2:=t.len; have h3:=h.dep; have h4:=t.dep;refine⟨?_,?_,?_⟩
 ·simp only[PyData.showableAll,h.can,t.can,Bool.and_self]
 ·simp only[PyData.shownAll,gR,uv,fj]; omega
 ·simp only[PyData.depthAll]; omega
theorem aR.snoc {D M':Nat} {d:PyData}:∀{ds:List PyData} {M:Nat},aR D M ds->Wt D M' d->aR D (M+M'+2) (ds++[d])
 | [],M,t,h=>(aR.cons h aR.nil).mono (a_ _) (by omega)
 | e::ds,M,t,h=>by
  have h1:=t.can; have h2:=t.len; have h3:=t.dep;simp only[PyData.showableAll,lG] at h1;simp only[PyData.shownAll,gR,uv,fj] at h2;simp only[PyData.depthAll] at h3;have hp:PyData.depthAll ds<=D:=dC (Nat.le_max_right _ _) h3;have hq:e.depth<=D:=dC (Nat.le_max_left _ _) h3;have:=aR.snoc (ds:=ds) (M:=M-e.shown.length-2) ⟨h1.2,by omega,hp⟩ h
  exact(aR.cons ⟨h1.1,a_ _,hq⟩ this).mono (a_ _) (by omega)
theorem aR.tup {D M:Nat} {ds:List PyData} (h:aR D M ds):Wt (D+1) (M+3) (.tuple ds):=by
 have h1:=h.len; have h2:=h.dep;refine⟨h.can,?_,?_⟩
 ·have q:=tupleText_len_le (PyData.shownAll ds);show(tupleText (PyData.shownAll ds)).length<=M+3;omega
 ·simp only[PyData.depth]; omega
theorem aR.lst {D M:Nat} {ds:List PyData} (h:aR D M ds):Wt (D+1) (M+3) (.list ds):=by
 have h1:=h.len; have h2:=h.dep;refine⟨h.can,?_,?_⟩
 ·have q:=listText_len_le (PyData.shownAll ds);show(listText (PyData.shownAll ds)).length<=M+3;omega
 ·simp only[PyData.depth]; omega
theorem Hq {D:Nat}:∀{kvs:List (PyData×PyData)} {M:Nat},(∀p∈kvs,Wt D 500 p.1)->aR D M (kvs.map (·.2))->PyData.showableKv kvs=true/\PyData.depthKv kvs<=D/\((PyData.shownKv kvs).map (·.length)).sum+2*(PyData.shownKv kvs).length<=M+502*kvs.length
 | [],M,_,t=>⟨rfl,fW _,by simp[PyData.shownKv]⟩
 | (k,d)::kvs,M,hk,t=>by
  have h1:=t.can; have h2:=t.len; have h3:=t.dep;simp only[gR,PyData.showableAll,lG] at h1;simp only[gR,PyData.shownAll,uv,fj] at h2;simp only[gR,PyData.depthAll] at h3;obtain⟨g1,g2,g3⟩:=Hq (kvs:=kvs) (M:=M-d.shown.length-2) (fun p hp=>hk p (gY _ hp)) ⟨h1.2,by omega,by omega⟩
  have hk0:=hk (k,d) gj;have l0:=hk0.len;have d0:=hk0.dep;dsimp only at d0;have hq:d.depth<=D:=dC (Nat.le_max_left _ _) h3;refine⟨by simp only[PyData.showableKv,hk0.can,h1.1,g1,Bool.and_self],by simp only[PyData.depthKv]; exact Nat.max_le.mpr ⟨Nat.max_le.mpr ⟨d0,hq⟩,g2⟩,?_⟩
  have e:(k.shown ++ ": " ++ d.shown).length=k.shown.length+2+d.shown.length:=by
   rw[Str.length_append,Str.length_append]; rfl
  simp only[PyData.shownKv,gR,uv,fj,e];dsimp only at l0;omega
theorem aR.dct {D M:Nat} {kvs:List (PyData×PyData)} (hk:∀p∈kvs,Wt D 500 p.1) (h:aR D M (kvs.map (·.2))):Wt (D+1) (M+502*kvs.length+3) (.dict kvs):=by
 obtain⟨g1,g2,g3⟩:=Hq hk h;refine⟨g1,?_,?_⟩
 ·have q:=dictText_len_le (PyData.shownKv kvs);show(dictText (PyData.shownKv kvs)).length<=_;omega
 ·simp only[PyData.depth]; omega
theorem aR.append {D M':Nat}:∀{ds es:List PyData} {M:Nat},aR D M ds->aR D M' es->aR D (M+M') (ds++es)
 | [],es,M,t,h=>h.mono (a_ _) (by omega)
 | e::ds,es,M,t,h=>by
  have h1:=t.can; have h2:=t.len; have h3:=t.dep;simp only[PyData.showableAll,lG] at h1;simp only[PyData.shownAll,gR,uv,fj] at h2;simp only[PyData.depthAll] at h3;have hp:PyData.depthAll ds<=D:=dC (Nat.le_max_right _ _) h3;have hq:e.depth<=D:=dC (Nat.le_max_left _ _) h3;have:=aR.append (ds:=ds) (M:=M-e.shown.length-2) ⟨h1.2,by omega,hp⟩ h
  exact(aR.cons ⟨h1.1,a_ _,hq⟩ this).mono (a_ _) (by omega)
theorem aC.wt {b D:Nat}:∀{ds:List PyData} {M:Nat},aC b D M ds->b<10 ^ 60->aR D M ds
 | [],M,_,_=>aR.nil.mono (a_ _) (fW _)
 | d::ds,M,h,hb=>by
  have hm:=h.m;simp only[bF] at hm;exact(aR.cons (fL.wt ⟨h.f d gj,h.dp d gj,a_ _⟩ hb) (aC.wt (M:=bF ds) ⟨fun x hx=>h.f x (gY _ hx),fun x hx=>h.dp x (gY _ hx),a_ _⟩ hb)).mono (a_ _) (by omega)
def nw (H H':Hp):Hp:=fun b=>if H b=none then(match H' b with
 | some (.lst xs)=>if b=sysModules then none else some (.lst xs)
 | o=>o) else none
def mz (H:Hp):Hp:=nw (fun _=>none) H
section
variable {H H':Hp} {b:Addr} {o:HO}
theorem eY (h:nw H H' b=some o):H b=none/\H' b=some o/\∀xs,o=.lst xs->b≠sysModules:=by
 unfold nw at h;split at h
 ·rename_i hn;split at h
  ·rename_i xs e;split at h
   ·cases h
   ·rename_i ne;cases h;exact⟨hn,e,fun _ _=>ne⟩
  ·rename_i q;exact⟨hn,h,fun xs e=>absurd (e▸h) (q xs)⟩
 ·cases h
theorem gm (h1:H b=none) (h2:H' b=some o) (h3:∀xs,o=.lst xs->b≠sysModules):nw H H' b=some o:=by
 unfold nw;rw[bj h1,h2];cases o <;> first | (rename_i xs; dsimp only; rw[bB (h3 xs rfl)]; done) | rfl
theorem Jw:aH (nw H H') H':=fun b o h=>(eY h).2.1
theorem GC {G G':Hp} (g:∀b,H b=none->G b=none) (s:∀b o,H b=none->H' b=some o->G' b=some o):aH (nw H H') (nw G G'):=fun b o h=>by
 obtain⟨h1,h2,h3⟩:=eY h;exact gm (g b h1) (s b o h1 h2) h3
theorem eG (s:aH H H'):aH (mz H) (mz H'):=GC (fun _ h=>h) fun b o _ h=>s b o h
theorem yw:aH (mz H) H:=Jw
theorem yx {xs:List V} (h:H b=some (.lst xs)) (n:b≠sysModules):mz H b=some (.lst xs):=gm rfl h fun _ _=>n
theorem j9 {xs:List V} (h:H b=some (.tup xs)):mz H b=some (.tup xs):=gm rfl h fun _ e=>nomatch e
theorem Jx {xs:List (Key×V)} (h:H b=some (.dK xs)):mz H b=some (.dK xs):=gm rfl h fun _ e=>nomatch e
theorem At.mz {d:PyData} {v:V} (n:rQ d=true) (h:At H d v):At (mz H) d v:=At.tupS (fun b xs e=>j9 e) d v n h
theorem At.N_ {d:PyData} {v:V} (h:At (L2.mz H) d v):At H d v:=h.mono yw
end
section
variable {X:Cx}
theorem qz {k:Nat} (hr:dN k X.A):cB X (.type "str") (fun vs H Q=>∃(v:V) (ds:List PyData),vs=[v]/\At (mz H) (.list ds) v/\Wt 60 sizeLine (.list ds)/\Q (.str (PyData.shown (.list ds))) H):=by
 refine .mk ?_;intro pins s σ H vs us Q I r h;obtain⟨v,ds,rfl,hv,hs,q⟩:=h;obtain⟨u,rfl,ru⟩:=r.one;obtain⟨as,R,hb⟩:=vL I.hok yw (fun b xs e=>(eY e).2.2 xs rfl) _ _ _ hv ru;unfold At at hv;obtain⟨a,xs,e,_⟩:=hv;subst e;cases(show u=Value.ref a from ru);have hu:=hr.units;have hd:=hs.dep;exact str_of_reads R hs.can (fun _ z=>hb _ z rfl) hr.gd (by omega) (fun _ _ e=>e) (fun h' t tk hk=>⟨.str _,H,I.kept (t':=tk) hk,⟨t,rfl⟩,q⟩) hs.len
def Hx (t:TA):TE:=fun σ H Q=>t σ H fun xs H1=>xs.length<=sizeLine/\∀p H',H1 p=none->aH H1 H'->H' p=some (.lst xs)->p≠sysModules->Q (.ref p) H'
theorem rJ {es:List Expr} {t:TA} {pos:Pos} (h:PA X es t):PE X (.List es pos) (Hx t):=by
 refine .mk ?_;intro pins s σ H Q I hq;refine wpAny_List_spliced (cu (h pos pins s σ H _ I hq) fun us s1 ⟨xs,H1,I1,r,z,q⟩=>⟨by rw[<- r.length]; exact z,?_⟩)
 have fr:H1 s1.heap.objs.size=none:=I1.hok.fresh (a_ _);exact⟨.ref s1.heap.objs.size,upd H1 s1.heap.objs.size (.lst xs),I1.laid (t':=s1.toks) (fun b u e=>gF _ e) (a_ _) ⟨z,us,0,r,gW _ rfl⟩,rfl,q _ _ fr (aK fr _) aA (Ne.symm (eF I1.big))⟩
end
end L2
namespace L2
open PySem PySem.Spec PyProof.Rows
def rD (acc kvs:List (Key×V)):List (Key×V):=kvs.foldl (fun a p=>putK a p.1 p.2) acc
structure xP (H:Hp) (xs:List V) (kvs:List (Key×V)):Prop where
 n:xs.length=kvs.length
 p:∀(i:Nat) (x:V) (q:Key×V),xs[i]?=some x->kvs[i]?=some q->∃t,x=.ref t/\H t=some (.tup [kV q.1,q.2])
section
variable {X:Cx} {pins:List (Addr×Obj)} {σ:St}
theorem zf {p it l:Addr} {xs:List V} {kvs:List (Key×V)}:∀(k i:Nat) (H:Hp) (s:Shared) (A:Around) (acc:List (Key×V)) (R:Result->Shared->Prop),xs.length-i=k->i<=xs.length->xs.length<=1000->A.handled=none->A.units+61<cLine->Inv X pins σ H s->H p=some (.dK acc)->acc.length<=i->H l=some (.lst xs)->xP H xs kvs->s.heap.IsListIter it l i->iW X pins H it ->
  (∀H' s',Inv X pins σ H' s'->H'=upd H p (.dK (rD acc (kvs.drop i)))->R (.ok (.ret .none)) s') ->
  wpAny (model X.prog X.w) A.in1 (Builtin.«dict.update.loop» ⟨[.ref p,.ref it,rawInt i,.none],[]⟩) (fun fin s'=>match fin with | .done f=>R (.ok f) s' | .again c'=>c'.quiet=true/\codeAny (model X.prog X.w) A c' R s') (fun e s'=>R (.error e) s') s:=by
 intro k
 induction k with
 | zero=>
  intro i H s A acc R hk hi hz hh hu I n hacc hl P hit fp q;have ei:i=xs.length:=by omega
  obtain⟨_,its,m,r,e⟩:=I.hok l _ hl;have hL:s.heap.IsList l its.toArray:=⟨_,e,rfl,_,rfl⟩;have hx:its.toArray[i]?=none:=by rw[Ga,List.getElem?_eq_none_iff,<- r.length]; omega
  unfold Builtin.«dict.update.loop»;refine bJ (wpAny_pyNext_list_end hh hit hL hx fun h' ex=>?_);dsimp only;unfold Builtin.Dict.addKeywords
  wp_walk
  have I':Inv X pins σ H { s with heap:=h' }:=I.turned (it:=it) (t':=s.toks) (fun b o nb eb=>ex b o nb eb) fp.1 fp.2.1 fp.2.2.2.1 fp.2.2.2.2.1 fp.2.2.2.2.2
  refine q H _ I' ?_;rw[ei,P.n,List.drop_length]
  funext b
  by_cases z:b=p
  ·rw[z,aA,n]; rfl
  ·rw[aL z]
 | succ k ih=>
  intro i H s A acc R hk hi hz hh hu I n hacc hl P hit fp q;obtain⟨_,its,m,r,e⟩:=I.hok l _ hl;have hL:s.heap.IsList l its.toArray:=⟨_,e,rfl,_,rfl⟩;have O9:i<xs.length:=by omega
  obtain⟨u,hu1,ru⟩:=ud r (pB O9);have hkl:i<kvs.length:=by rw[<- P.n]; exact O9
  have hdr:kvs.drop i=kvs[i]::kvs.drop (i+1):=List.drop_eq_getElem_cons hkl;obtain⟨t,et,ht⟩:=P.p i _ _ (pB O9) (pB hkl);generalize kvs[i]=kq at hdr ht;rw[et] at ru;cases ru;unfold Builtin.«dict.update.loop»;refine bJ (wpAny_pyNext_list_item hit hL (by rw[Ga]; exact hu1) fun h' hit' sb=>?_)
  have I':Inv X pins σ H { s with heap:=h' }:=I.turned (it:=it) (t':=s.toks) (fun b o nb eb=>(sb.2 b nb).trans eb) fp.1 fp.2.1 fp.2.2.2.1 fp.2.2.2.2.1 fp.2.2.2.2.2
  obtain⟨_,ts,rt,⟨cls,dd,data,sl⟩,e1,hc,m1,hd⟩:=I'.hok t _ ht;simp only at hc hd;subst hc hd;obtain⟨w0,w1,rfl,r0,r1⟩:=rt.two;dsimp only;have hT:({ s with heap:=h' }:Shared).TypeIs (.ref t) "tuple" := ⟨_,e1,rfl⟩
  refine bJ (jX ?_);unfold Builtin.Dict.pairItems;refine bJ (wpAny_tryCatch (bJ (zJ hT ?_)));rw[bj (by decide)]
  refine bJ (wpAny_seqItems e1 rfl (fG ?_));obtain⟨z,hd,vs,rel,NB⟩:=Ib I'.hok n;have hz':vs.length<=sizeLine:=by rw[<- rel.length]; exact z
  have hlp:=mC acc kq.1 kq.2;refine jX (wpAny_dictSet_pairs (hsz:=hz') (DR (P:=X.prog) (w:=X.w) r0) NB fun h2 dd2 hs=>?_);have he:∃q,h2.get? p=some q:=let ⟨q,_,_,hq,_⟩:=dd2; ⟨q,hq⟩;have I2:=yK (ob:=.dK (putK acc kq.1 kq.2)) (t':=s.toks+1) I' (by rw[n]; exact True.intro) hs he (Ec (lF (bA (by omega))) hd (rel.put kq.1 r1) dd2)
  have RQ:∀c,H c=none->c≠p:=fun c hc z=>by rw[z,n] at hc; cases hc
  have Mg:=RQ it fp.1
  have tup:∀c zs,H c=some (.tup zs)->upd H p (.dK (putK acc kq.1 kq.2)) c=some (.tup zs):=fun c zs hc=>by
   rw[aL (fun z=>by rw[z,n] at hc; cases hc)]; exact hc
  refine fG ⟨plainId_quiet iY _,codeAny_builtin pX ?_⟩
  ·rw[Around.under_plainId iY _];refine ih (i+1) _ _ A (putK acc kq.1 kq.2) R (by omega) (by omega) hz hh hu I2 aA ?_ ?_ ⟨P.n,fun j x q' h1 h2=>?_⟩ ?_ ⟨?_,fp.2⟩ ?_
   ·omega
   ·rw[aL (fun z=>by rw[z,n] at hl; cases hl)]; exact hl
   ·obtain⟨t2,a1,a2⟩:=P.p j x q' h1 h2;exact⟨t2,a1,tup _ _ a2⟩
   ·exact Heap.IsListIter.at hit' fun o eo=>(hs.2 _ Mg).trans eo
   ·rw[aL Mg]; exact fp.1
   ·rintro H' s' J1 rfl;refine q _ s' J1 ?_;rw[hdr,qY]; rfl
end
section
variable {X:Cx}
theorem xH (hu:X.A.units+64<cLine) (hc:X.calm=true):cB X (.type "dict") (fun vs H Q=>∃(l:Addr) (xs:List V) (kvs:List (Key×V)),vs=[.ref l]/\H l=some (.lst xs)/\xs.length<=1000/\xP H xs kvs/\∀p,H p=none->Q (.ref p) (upd H p (.dK (rD [] kvs)))):=by
 refine .mk ?_;intro pins s σ H vs us Q I rv h;obtain⟨l,xs,kvs,rfl,hl,hz,P,q⟩:=h;obtain⟨u,rfl,ru⟩:=rv.one;cases ru;have hh:X.A.handled=none:=I.ok.hd hc;have hf:=I.hok.fresh (a_ s.heap.objs.size);have I1:=I.laid (a:=s.heap.objs.size) (o:=.dK []) (t':=s.toks) (fun _ _ q=>gF _ q) (a_ _) (uV s.heap I.big);have n1:upd H s.heap.objs.size (.dK []) s.heap.objs.size=some (.dK []):=aA;have s1:=aK hf (.dK []);refine callType_codes (Q₁:=fun obj s₁=>obj=.ref s.heap.objs.size/\s₁={ s with heap:=s.heap.push { cls:=.type "dict",data:=.dict #[] } }) F.kt_called_dict (F.kt_typeCall_dict_1 _) F.entry_dict_init (kt_code_dict_new _ ⟨rfl,rfl⟩) ?_
 rintro obj s₁ ⟨rfl,rfl⟩;have hT:=(JN I1 (.inl ⟨[],.inl n1⟩)).1;refine⟨hT,F.args_dict_init_2 _ _,?_⟩;unfold Builtin.«dict.__init__»;refine bJ ?_;unfold Builtin.Dict.selfAndRest;refine bJ (wpAny_notOrdered_dict hT ?_);show wpAny _ _ (pure (s.heap.objs.size,[Value.ref l])) _ _ _;refine fG ?_;show wpAny _ _ (Builtin.Dict.updateFrom "dict.__init__" s.heap.objs.size (.ref l) [] .none) _ _ _;unfold Builtin.Dict.updateFrom;obtain⟨_,its,m,r,e⟩:=I1.hok l _ (s1 _ _ hl);refine bJ (zJ ⟨_,e,rfl⟩ ?_);rw[bj (by decide)]
 refine bJ (Ag e hh fun h' tk k=>?_);rw[bj (by decide)]
 refine bJ (wpAny_rule ?_);have I2:=I1.kept (t':=tk) k;have hL:h'.IsList l its.toArray:=⟨_,k _ _ e,rfl,_,rfl⟩;refine bJ (CQ hL ?_);have I3:=I2.kept (t':=tk) (h':=h'.push { cls:=.type "list_iterator",data:=.fields #[.ref l,.int 0 0] }) fun b o eb=>gF _ eb;have fi:=I2.hok.fresh (a_ h'.objs.size);refine fG ⟨plainId_quiet iY _,codeAny_builtin pX ?_⟩;rw[Around.under_plainId iY _];refine zf (kvs:=kvs) xs.length 0 _ _ X.A.in1 [] _ (by omega) (fW _) hz hh (by show X.A.units+1+61<cLine; omega) I3 n1 (fW _) (s1 _ _ hl) ⟨P.n,fun j x q' h1 h2=>?_⟩ ⟨_,gW _ rfl,rfl,rfl⟩ (I2.wQ (a_ _) fi) ?_
 ·obtain⟨t2,a1,a2⟩:=P.p j x q' h1 h2;exact⟨t2,a1,s1 _ _ a2⟩
 ·rintro H' s' J1 rfl;rw[qY] at J1;exact⟨rfl,.ref s.heap.objs.size,_,J1,rfl,q _ hf⟩
end
def kE (xs:List V):List (Key×V):=(List.range xs.length).map fun(i:Nat)=>(Sum.inl (i:Int),xs.getD i .non)
theorem xm {K:PySem.W.Frag} {js:List Nat} {a:Addr} {xs:List V} {ta:TA} {te:TE} {σ:St} {H:Hp} {Q:VK} (hl:∀R:List V->Hp->Prop,R [.ref a] H->ta σ H R) (hb:H a=some (.lst xs)) (hn:xs.length<=900)
  (val:∀(i:Nat) (x:V) H',xs[i]?=some x->aH H H'->∀R:VK,(∀t jg,H' t=none->aH H' jg->jg t=some (.tup [.int (i:Nat),x])->R (.ref t) jg)->te (some (.int (i:Nat))::some x::fK js σ) H' R)
  (fin:∀acc ys H',aH H H'->H acc=none->H' acc=some (.lst ys)->xP H' ys (kE xs)->Q (.ref acc) H'):kZ 2 js (DY K ta) (JQ K 2 (oM (km 0) (oM (km 1) Ar))) zq te σ H Q:=by
 refine hl _ ⟨a,rfl,⟨_,fJ.of hb⟩,fun acc hacc=>?_⟩;refine⟨fun i m ys H2=>m=xs.length-i/\i<=xs.length/\ys.length=i/\(∀(j:Nat) (y:V),ys[j]?=some y->∃t,y=.ref t/\H2 t=some (.tup [.int (j:Nat),xs.getD j .non]))/\aH H H2/\H2 acc=some (.lst ys),⟨_,rfl,fW _,rfl,(fun j y e=>by simp at e),aK hacc _,aA⟩,?_⟩
 rintro i m ys H2 ⟨rfl,hi,ly,hp,sm,hy⟩;have hq:fJ K H2 a xs:=fJ.of (sm _ _ hb);by_cases hlt:i<xs.length
 ·have e1:xs[i]?=some xs[i]:=pB hlt;refine .inr ⟨⟨_,xs[i],hq,e1⟩,fun x H3 y=>?_⟩;obtain⟨p,y',fp,rfl,rfl,h2⟩:=y;have q2:=h2 _ hq;rw[e1] at q2;cases q2;have s3:aH H2 (upd H2 p (.tup [.int (i:Nat),xs[i]])):=aK fp _;refine⟨p,_,rfl,fH.of aA,rfl,(show(_=_/\_=_)/\zq _ _ _ from⟨⟨rfl,by simp⟩,?_⟩)⟩
  unfold zq;dsimp only;rw[bj rfl];refine val i _ _ e1 (sm.trans s3) _ fun t H4 ft s4 et=>?_;have Kl:=s3.trans s4;have nt:t≠acc:=fun z=>by rw[z,s3 _ _ hy] at ft; cases ft
  refine⟨Kl _ _ hy,bA (by omega),xs.length-(i+1),by omega,rfl,hlt,by rw[jk,ly]; rfl,fun j y e=>?_,(sm.trans Kl).dD hacc,aA⟩
  by_cases hj:j<ys.length
  ·rw[Gb hj] at e;obtain⟨t',e',h'⟩:=hp j y e;have n':t'≠acc:=fun z=>by rw[z,hy] at h'; cases h'
   exact⟨t',e',by rw[aL n']; exact Kl _ _ h'⟩
  ·rw[Gd (by omega)] at e
   have hj':j=i:=by
    have:=(lL.mp e).1;simp at this; omega
   subst hj';rw[ly,Nat.sub_self] at e;have ey:V.ref t=y:=by simpa using e
   exact⟨t,ey.symm,by rw[aL nt,et,ym,e1]; rfl⟩
 ·have e:i=xs.length:=by omega
  subst e;refine .inl ⟨⟨_,hq,a_ _⟩,fin _ _ _ sm hacc hy ⟨by rw[ly]; simp[kE],fun j x q e1 e2=>?_⟩⟩
  obtain⟨t,et,ht⟩:=hp j x e1;have hj:j<xs.length:=by have:=(lL.mp e1).1; omega
  have eq':q=(Sum.inl (j:Int),xs.getD j .non):=by
   unfold kE at e2;rw[gU,List.getElem?_range hj] at e2;exact(Option.some.inj e2).symm
  subst eq';exact⟨t,et,ht⟩
end L2
namespace L2
open PySem PySem.Spec PyProof.Rows PySem.Builtin PySem.Builtin.ObjectAttr
section
variable {prog:Program} {w:World} {A:Around} {E:Value->Shared->Prop} {h:Heap} {g:Array GenState} {d:Drawn} {t:Nat} {os:OsState}
variable {nm q:Str} {C N:Addr} {bs bm bmB:List Value} {hdct:Bool} {sn:List Str} {sub:List Value} {ab:Bool} {col:Option Bool} {dd:Option Addr} {k0 k1 k2 k3 k5:Option Value} {B Bn newId nid initId inN:String} {bmN:List Value}
theorem mG (Fn:ExcBaseFacts Bn newId inN bmN) (hBn:bmB.contains (.type Bn)=true) (F:ExcBaseFacts B nid initId bmB) (T:OwnTail h bmB bm) {mN:Str->Option Value} {rest:List Value} {fI:Addr} {oI:Obj} {Q:Fin->Shared->Prop}
  (hC:h.get? C=some (excClassObj nm q C N bs bm hdct sn sub ab col dd k0 k1 k2 k3 k5 newId)) (hn:h.Ns N mN) (hi:mN "__init__" = some (.ref fI))
  (hfI:h.get? fI=some oI) (hfc:oI.cls=.type "function")
  (hq:∀h' e,Heap.MadeExcOf h h' e (.ref C) rest ->
   wpAny (model prog w) A (call (.ref fI) (.ref e::rest)) (fun r s'=>r=.none/\Q (.done (.ret (.ref e))) s') E ⟨h',g,d,t,os⟩) (hrest:rest.length<=sizeLine:=by size_fits) :
  wpAny (model prog w) A (Builtin.«type.__call__» ⟨.ref C::rest,[]⟩) Q E ⟨h,g,d,t,os⟩:=by
 repeat (first | with_reducible refine uz hC ?_ | with_reducible refine wpAny_madeBy_exc hC ?_ | wp_step)
 refine codeAny_call_builtin_code (Code.quiet_builtin _ Fn.quiet) (wpAny_check_new_subU Fn hBn T hC ?_);refine codeAny_exc_new_subU Fn hBn F T hC ?_ hrest;show wpAny _ _ _ _ _ _;have hC₁:=gF { cls:=.ref C,data:=.fields #[.ref h.objs.size,.none,.none,.none,.bool false,.none] }
  (gF { cls:=.type "tuple",data:=.seq rest.toArray } hC)
 have hfI₁:=gF { cls:=.ref C,data:=.fields #[.ref h.objs.size,.none,.none,.none,.bool false,.none] }
  (gF { cls:=.type "tuple",data:=.seq rest.toArray } hfI)
 have hn₁:((h.push { cls:=.type "tuple",data:=.seq rest.toArray }).push { cls:=.ref C,data:=.fields #[.ref h.objs.size,.none,.none,.none,.bool false,.none] }).Ns N mN:=
  let ⟨o,es,ep,e,r⟩:=hn; ⟨o,es,ep,gF _ (gF _ e),r⟩
 have hget:((h.push { cls:=.type "tuple",data:=.seq rest.toArray }).push
   { cls:=.ref C,data:=.fields #[.ref h.objs.size,.none,.none,.none,.bool false,.none] }).get? (h.objs.size+1)=some
   { cls:=.ref C,data:=.fields #[.ref h.objs.size,.none,.none,.none,.bool false,.none] }:=by heap_get
 have hcC:(Value.ref C::bm).contains (.ref C)=true:=by simp
 have T₁:=T.keeps (h':=(h.push { cls:=.type "tuple",data:=.seq rest.toArray }).push { cls:=.ref C,data:=.fields #[.ref h.objs.size,.none,.none,.none,.bool false,.none] })
  fun b o e=>gF _ (gF _ e)
 unfold isInstance
 repeat (first | with_reducible refine uz hget ?_ | (with_reducible refine wpAny_isSubtype_exc hC₁ ?_; rw[hcC]) | wp_step)
 show wpAny _ _ (typeLookup (.ref C) _) _ _ _;refine wpAny_typeLookup_tail hC₁ hn₁ T₁ F.mroIs F.init.lookup ?_;rw[hi];refine jX (bJ ?_);unfold bindSpecial;refine bJ (zJ (T:="function") ⟨_,hfI₁,hfc⟩ ?_);rw[bj (by decide)]
 refine fG (bJ (pA (hq _ (h.objs.size+1) ⟨fun b o hb=>gF _ (gF _ hb),FW (Nat.le_succ _),h.objs.size,hget,FW (a_ _),?_⟩) (fun r s' hr=>?_) fun _ _ x=>x))
 ·exact gF _ (Heap.get?_push_at rfl rfl)
 ·obtain⟨rfl,hQ⟩:=hr
  wp_walk
  exact hQ
theorem xG (Fn:ExcBaseFacts Bn newId inN bmN) (hBn:bmB.contains (.type Bn)=true) (F:ExcBaseFacts B nid initId bmB) (T:OwnTail h bmB bm) {mN:Str->Option Value} {rest:List Value} {fI:Addr} {oI:Obj} {Q:Value->Shared->Prop}
  (hC:h.get? C=some (excClassObj nm q C N bs bm hdct sn sub ab col dd k0 k1 k2 k3 k5 newId)) (hn:h.Ns N mN) (hi:mN "__init__" = some (.ref fI))
  (hfI:h.get? fI=some oI) (hfc:oI.cls=.type "function")
  (hq:∀h' e,Heap.MadeExcOf h h' e (.ref C) rest ->
   wpAny (model prog w) (A.under (.builtin "type.__call__" ⟨.ref C::rest,[]⟩)) (call (.ref fI) (.ref e::rest)) (fun r s'=>r=.none/\Q (.ref e) s') E ⟨h',g,d,t,os⟩) (hrest:rest.length<=sizeLine:=by size_fits) :
  wpAny (model prog w) A (call (.ref C) rest) Q E ⟨h,g,d,t,os⟩:=by
 have f1:=tc_lookup;have f2:=tc_bind (.ref C);have hT:(⟨h,g,d,t,os⟩:Shared).TypeIs (.ref C) "type" := ⟨_,hC,rfl⟩;refine zF (codeAny_of_tree ?_);show wpAny _ _ (callAny (.ref C) _) _ _ _
 repeat (any_goals (first | assumption | with_reducible refine uz hC ?_ | wp_step))
 refine⟨rfl,?_⟩;refine codeAny_call_builtin_at (Code.quiet_builtin _ (by decide +kernel)) entry_typeCall (wpAny_check_type_call_sub hC (mG (hrest:=hrest) Fn hBn F T hC hn hi hfI hfc fun h' e hm=>?_))
 exact hq h' e hm
end
section
variable {prog:Program} {w:World} {A:Around} {E:Value->Shared->Prop} {h:Heap} {g:Array GenState} {d:Drawn} {t:Nat} {os:OsState}
variable {nm q:Str} {C N x HE:Addr} {bs bm:List Value} {sn:List Str} {sub:List Value} {ab:Bool} {col:Option Bool} {dd:Option Addr} {k0 k1 k2 k3 k5:Option Value} {newId:String} {name:Str} {v:Value} {K:PySem.W.Frag}
theorem Ay {M:Model} {o:Obj} {nameV:Value} {Q:Unit->Shared->Prop} (hob:bm.contains (.type "object")=true)
  (hC:h.get? C=some (excClassObj nm q C N bs bm true sn sub ab col dd k0 k1 k2 k3 k5 newId)) (hx:h.get? x=some o) (hc:o.cls=.ref C) (hq:Q () ⟨h,g,d,t,os⟩) :
  wpAny M A (checkBuiltinCall "object.__setattr__" ⟨[.ref x,nameV,v],[]⟩) Q E ⟨h,g,d,t,os⟩:=by
 have SF:=PySem.F.store_ValueError;have hcB:(Value.ref C::bm).contains (.type "object")=true:=by rw[List.contains_cons,hob,Bool.or_true]
 have ha:=SF.args (.ref x) nameV v;simp only[checkBuiltinCall,SF.kind,SF.split];refine bJ ?_
 ·unfold isInstance
  repeat (first | (with_reducible refine uz hx ?_; rw[hc]) | (with_reducible refine wpAny_isSubtype_exc hC ?_; rw[hcB]) | wp_step)
  exact hq
structure yP (h h':Heap) (x:Addr) (o:Obj) (dx:Addr) (name:Str) (v:Value):Prop where
 at_:h'.get? x=some { o with dict:=some dx }
 new:h.get? dx=none
 ns:h'.Ns1 dx (fun y=>if y=name then some v else none)
 keep:∀b u,b≠x->h.get? b=some u->h'.get? b=some u
theorem q9 {tk:Tok} {o:Obj} {Q:Fin->Shared->Prop} (X:K.In h) (hna:PySem.W.findIn K (.ref C) name=some none)
  (hC:h.get? C=some (excClassObj nm q C N bs (.ref HE::y_) true sn sub ab col dd k0 k1 k2 k3 k5 newId)) (hx:h.get? x=some o) (hc:o.cls=.ref C) (hdn:o.dict=none) (hnc:∀c,o.data≠.cls c)
  (hq:∀h' tk' dx,yP h h' x o dx name v->Q (.done (.ret .none)) ⟨h',g,d,tk',os⟩) :
  wpAny (model prog w) A (Builtin.«object.__setattr__» ⟨[.ref x,.str name tk,v],[]⟩) Q E ⟨h,g,d,t,os⟩:=by
 have SF:=PySem.F.store_ValueError;have hpass:=SF.passes (.ref x);have L:=PySem.W.looks_findIn (M:=model prog w) X hna;unfold Builtin.«object.__setattr__»
 repeat (first | rw[refuse_eq] | (rw[refuseLoop_ref,refuseLoop_ref,show refuseLoop (.ref x) "__setattr__" y_=pure () from hpass]) | (with_reducible refine uz hx ?_; rw[hc]) | with_reducible refine wpAny_mroOf_exc hC ?_ | (with_reducible refine L.at ?_) | wp_step)
 rw[hdn,bB (by simp[typeHasDict])]
 split
 ·rename_i hcd;cases hcd
 split
 ·rename_i c hcd;exact absurd hcd (hnc c)
 ·have hx₁:(h.push { cls:=.type "dict",data:=.dict #[] }).get? x=some o:=gF _ hx;have hxs:x≠h.objs.size:=eF (gA hx);refine bJ (wpAny_alloc' ?_);refine bJ (wpAny_update' hx₁ ?_);refine fG ?_;have hgd:((h.push { cls:=.type "dict",data:=.dict #[] }).update x fun o=>{ cls:=o.cls,dict:=some h.objs.size,data:=o.data,slots:=o.slots }).get? h.objs.size
    = some { cls:=.type "dict",data:=.dict #[] }:=
   (Heap.get?_update_ne _ _ _ _ hxs.symm).trans (Heap.get?_push_at rfl rfl)
  have hnd:((h.push { cls:=.type "dict",data:=.dict #[] }).update x fun o=>{ cls:=o.cls,dict:=some h.objs.size,data:=o.data,slots:=o.slots }).Ns h.objs.size (fun _=>none):=
   ⟨_,#[],_,hgd,rfl,fun e he=>absurd he (by simp),fun _=>rfl⟩
  show wpAny _ _ (storeInDict h.objs.size (.str name tk) name v) _ _ _;unfold storeInDict newKeyGuard;refine bJ (fG (bJ (wpAny_nsSet1 (Heap.Ns1.of_empty hnd) fun h' hn' hs=>?_)));obtain⟨oD,esD,epD,hoD,hdD,hcD⟩:=hn'.count (Within.cons name v Within.nil);refine bJ (wpAny_lookBehind hoD (by rw[hdD]; exact pastItsLine_dict (dC hcD (by rw[fj,CG,sizeLine_eq]; omega))) ?_)
  wp_walk
  refine hq h' _ h.objs.size ⟨?_,FW (a_ _),hn',fun b u hb Q0=>?_⟩
  ·refine(hs.2 x hxs).trans (Heap.get?_update_self _ hx₁ ?_);have hfr:=(Heap.get?_some_iff.mp hx).2;obtain⟨oc,od,odt,osl⟩:=o;cases odt <;> first | rfl | exact hfr
  ·exact(hs.2 b (eF (gA Q0))).trans ((Heap.get?_update_ne _ _ _ _ hb).trans (gF _ Q0))
theorem ug {o:Obj} {Q:Unit->Shared->Prop} (X:K.In h) (hns:PySem.W.findIn K (.ref C) "__setattr__" = some (some (.builtin "object.__setattr__"))) (hna:PySem.W.findIn K (.ref C) name=some none)
  (hC:h.get? C=some (excClassObj nm q C N bs (.ref HE::y_) true sn sub ab col dd k0 k1 k2 k3 k5 newId)) (hx:h.get? x=some o) (hc:o.cls=.ref C) (hdn:o.dict=none) (hnc:∀c,o.data≠.cls c)
  (hq:∀h' tk' dx,yP h h' x o dx name v->Q () ⟨h',g,d,tk',os⟩) :
  wpAny (model prog w) A (setAttr (.ref x) name v) Q E ⟨h,g,d,t,os⟩:=by
 have SF:=PySem.F.store_ValueError;have f3:=SF.slot.bind (.ref x);have L:=PySem.W.looks_findIn (M:=model prog w) X hns;unfold setAttr callSpecial? specialOf
 repeat (any_goals (first | assumption | (with_reducible refine uz hx ?_; rw[hc]) | (with_reducible refine L.at ?_) | wp_step))
 refine codeAny_call_builtin SF.slot.plain SF.entry (Ay (by simp[y_]) hC hx hc (q9 X hna hC hx hc hdn hnc fun h' tk' dx S=>?_))
 repeat (any_goals (first | assumption | wp_step))
 exact hq h' tk' dx S
end
end L2
namespace L2
open PySem PySem.Spec PyProof.Rows PySem.Builtin PySem.Builtin.ObjectAttr
def Im (x C:Addr):HO:=.ext fun h=>∃oe fs,h.get? x=some oe/\oe.cls=.ref C/\oe.dict=none/\oe.data=.fields fs/\fs[1]?=some .none/\fs[2]?=some .none
def Et (x C dx:Addr):HO:=.ext fun h=>∃oe fs,h.get? x=some oe/\oe.cls=.ref C/\oe.dict=some dx/\oe.data=.fields fs/\fs[1]?=some .none/\fs[2]?=some .none
def kJ (H:Hp) (a C:Addr) (f:Str) (v:V):Prop:=∃dx,H a=some (Et a C dx)/\H dx=some (.xd [(f,v)])
theorem kJ.mono {H H':Hp} {a C:Addr} {f:Str} {v:V} (h:kJ H a C f v) (s:aH H H'):kJ H' a C f v:=by
 obtain⟨dx,h1,h2⟩:=h;exact⟨dx,s _ _ h1,s _ _ h2⟩
theorem Ju {P:Program} {w:World} {H:Hp} {h:Heap} {x C:Addr} (y:∃oe fs,h.get? x=some oe/\oe.cls=.ref C/\oe.dict=none/\oe.data=.fields fs/\fs[1]?=some .none/\fs[2]?=some .none):bD P w H h x (Im x C):=by
 refine⟨y,?_,?_⟩
 ·obtain⟨oe,fs,e,_⟩:=y; exact⟨_,e⟩
 ·rintro h1 h2 ⟨oe,fs,e,r⟩ k;exact⟨oe,fs,k _ e,r⟩
theorem Jv {P:Program} {w:World} {H:Hp} {h:Heap} {x C dx:Addr} (y:∃oe fs,h.get? x=some oe/\oe.cls=.ref C/\oe.dict=some dx/\oe.data=.fields fs/\fs[1]?=some .none/\fs[2]?=some .none):bD P w H h x (Et x C dx):=by
 refine⟨y,?_,?_⟩
 ·obtain⟨oe,fs,e,_⟩:=y; exact⟨_,e⟩
 ·rintro h1 h2 ⟨oe,fs,e,r⟩ k;exact⟨oe,fs,k _ e,r⟩
structure M7 (K:PySem.W.Frag) (C HE:Addr) (f:Str):Prop where
 ob:∃nm q N bs sn sub ab col dd k0 k1 k2 k3 k5,K.lookup C=some (excClassObj nm q C N bs (.ref HE::y_) true sn sub ab col dd k0 k1 k2 k3 k5 "ValueError.__new__")
 he:PySem.W.excIn K HE y_ "ValueError.__new__" = true
 sa:PySem.W.findIn K (.ref C) "__setattr__" = some (some (.builtin "object.__setattr__"))
 nf:PySem.W.findIn K (.ref C) f=some none
structure Kc (K:PySem.W.Frag) (C HE f:Addr) (fl:Str):Prop where
 s:M7 K C HE fl
 init:PySem.W.findIn K (.ref C) "__init__" = some (some (.ref f))
 own:∃N,(PySem.W.clsIn K C).map (·.ns)=some N/\PySem.W.nsIn K N "__init__" = some (some (.ref f))/\PySem.W.nsOkIn K N=true
 fn:PySem.W.isFn K (.ref f)=true
 kp:PySem.W.keepIn K (.ref C)=true
section
variable {X:Cx} {C HE:Addr} {fl x:Str} {o value:Expr} {ta tv:TE} {pos pos' p:Pos}
def Oi (K:PySem.W.Frag) (C:Addr) (ta tv:TE) (f:Str):TS:=fun D σ H=>tv σ H fun y H1=>ta σ H1 fun x H2=>∃a,x=.ref a/\H2 a=some (Im a C)/\∀dx,H2 dx=none->dx≠a->D.nx σ (upd (upd H2 dx (.xd [(f,y)])) a (Et a C dx))
theorem Jl {K:PySem.W.Frag} (hK:X.K=K) (c:M7 K C HE fl) (ha:PE X o ta) (hv:PE X value tv) (hs:swapsWith value (some (.Attribute o fl pos')) pos.line X.env=pure false:=by rfl):PS X (.Assign [.Attribute o fl pos'] value pos) (Oi K C ta tv fl):=by
 subst hK;refine .mk ?_;intro pins s σ H D I h;refine plainObj_wpAny_Assign_Attribute (cu (hv pins s σ H _ I h) fun u s1 ⟨y,H1,I1,ry,q⟩=>cu (ha pins s1 σ H1 _ I1 q) fun ov s2 ⟨x,H2,I2,rx,a,ex,ea,q2⟩=>?_) hs;subst ex;obtain rfl:ov=Value.ref a:=rx;obtain⟨nm,q,N,bs,sn,sub,ab,col,dd,k0,k1,k2,k3,k5,lk⟩:=c.ob;obtain⟨⟨oe,fs,e1,e2,e3,e4,e5,e6⟩,_,_⟩:=I2.hok a _ ea;have hC:=I2.kW _ _ lk;obtain⟨hp,g,d,tk,os⟩:=s2;refine ug I2.kW c.sa c.nf hC e1 e2 e3 (fun cc z=>by rw[e4] at z; cases z) fun h' tk' dx S=>?_
 have nd:H2 dx=none:=I2.hok.none S.new;have na:dx≠a:=fun z=>by have:=S.new; rw[z,e1] at this; cases this
 have I3:=(I2.ext (H':=upd (upd H2 dx (.xd [(fl,y)])) a (Et a C dx)) (h':=h') (fun b=>b=a\/b=dx) (fun b o z _ e=>S.keep b o (fun z'=>z (.inl z')) e) (fun b o z e=>⟨o.slots,S.keep b o (fun z'=>z (.inl z')) e⟩)
  (fun b o z e=>?_) (fun b z=>?_) (fun b z=>?_) fun b u' z e=>?_).tok tk'
 ·exact⟨σ,_,I3,q2 dx nd na⟩
 ·rcases z with rfl | rfl
  ·exact⟨_,S.at_⟩
  ·rw[S.new] at e; cases e
 ·rcases z with rfl | rfl
  ·exact .inr ⟨_,ea⟩
  ·exact .inl ⟨nd,S.new⟩
 ·rw[aL (fun z'=>z (.inl z')),aL (fun z'=>z (.inr z'))]
 ·rcases z with rfl | rfl
  ·rw[aA] at e;cases e;exact Jv ⟨_,fs,S.at_,e2,rfl,e4,e5,e6⟩
  ·rw[aL na,aA] at e;cases e;refine⟨_,S.ns,fun f'=>?_⟩;by_cases ef:f'=fl
   ·have hb:(f'==fl)=true:=beq_iff_eq.mpr ef;simp only[List.lookup,hb,bj ef];exact ry
   ·have hb:(f'==fl)=false:=beq_eq_false_iff_ne.mpr ef;simp only[List.lookup,hb,bB ef];exact True.intro
def vG (C:Addr) (sp:Sp) (t:TA):TE:=fun σ H Q=>t σ H fun vs H1=>vs.length<=1000/\∀a H2,H1 a=none->aH H1 H2->H2 a=some (Im a C)->sp (.ref a::vs) H2 (fun v H3=>v=.non/\Q (.ref a) H3) E0
theorem zB {k:Nat} {f:Addr} {fd:FuncData} {ps:List Str} {sp:Sp} {pins:List (Addr×Obj)} {σ:St} {H:Hp} {s:Shared} {Q:VK} {us:List Value} {vs:List V} (M:Kc X.K C HE f fl) (F:bI X.prog X.w X.K X.mg X.base gw k f fd ps sp) (hr:dN (k+1) X.A) (hb:Binds X.K fd ps [])
  (I:Inv X pins σ H s) (r:Vals vs us) (hl:vs.length<=1000)
  (h:∀a H2,H a=none->aH H H2->H2 a=some (Im a C)->sp (.ref a::vs) H2 (fun v H3=>v=.non/\Q (.ref a) H3) E0) :
  wpAny (model X.prog X.w) X.A (call (.ref C) us) (EP X pins σ Q) X.xe s:=by
 obtain⟨nm,q,N,bs,sn,sub,ab,col,dd,k0,k1,k2,k3,k5,lk⟩:=M.s.ob;have hC:=I.kW _ _ lk;obtain⟨Wa,NH,VB,qH,V_,hdH,Vv,RC,Wc,U7,V9,j0,j1,j2,j3,j5,mH,hH,Su,hiH,_⟩:=Rn.obj I.kW M.s.he;have T:OwnTail s.heap y_ (.ref HE::y_):=.own hH Su hiH .base;obtain⟨N',hN',hn',hok⟩:=M.own
 have eN:N'=N:=by
  unfold PySem.W.clsIn at hN';rw[lk] at hN';exact(Option.some.inj hN').symm
 subst eN;have hNs:=Heap.Ns.of_isNs (PySem.W.isNs_of_in I.kW hok)
 have hi:s.heap.nsMap N' "__init__" = some (.ref f):=by
  obtain⟨o,es,ep,ho,hd,hk,hf⟩:=id hNs;unfold PySem.W.nsIn at hn';split at hn'
  ·rename_i c' d' es' n' sl' q';have:=I.kW _ _ q';rw[ho] at this;cases this;cases hd;split at hn'
   ·rename_i en he;have ev:=Option.some.inj (Option.some.inj hn');rw[<- hf];unfold nsFind findBy;rw[<- Array.find?_toList,he];show some en.val=_;rw[ev]
   ·split at hn' <;> cases hn'
  ·cases hn'
 have hfn:=beq_iff_eq.mp M.fn;unfold PySem.W.typeIn at hfn;obtain⟨oI,hoI,Ss⟩:=Option.map_eq_some_iff.mp hfn;have R6:us.length<=sizeLine:=by rw[<- r.length]; exact lF (bA (n:=vs.length) (by omega))
 have RM:s=⟨s.heap,s.gens,s.drawn,s.toks,s.os⟩:=rfl;rw[RM];refine xG (hrest:=R6) PySem.F.excBase_ValueError (by decide) PySem.F.excBase_ValueError T hC hNs hi (I.kW _ _ hoI) Ss fun h' e m=>?_
 obtain⟨t,he,_,_⟩:=m.there;have ne:H e=none:=I.hok.none m.new
 have I2:Inv X pins σ (upd H e (Im e C)) { s with heap:=h' }:=I.ext (fun b=>b=e) (fun b o _ _ q=>m.keeps b o q) (fun b o _ q=>⟨o.slots,m.keeps b o q⟩) (fun b o z q=>by subst z; exact⟨_,he⟩) (fun b z=>.inl (by subst z; exact⟨ne,m.new⟩)) (fun b z=>aL z) fun b u z q=>by
  subst z;rw[aA] at q;cases q;exact Ju ⟨_,_,he,rfl,rfl,rfl,rfl,rfl⟩
 have hq:=h e _ ne (aK ne (Im e C)) aA;have r2:Vals (V.ref e::vs) (Value.ref e::us):=.cons rfl r
 have hl2:(Value.ref e::us++[]).length=ps.length:=by
  have e:=r2.length;rw[F.len _ _ _ _ hq] at e;rw[Cz];exact e.symm
 have hb2:=hb _ (Value.ref e::us) I2.kW hl2;rw[Cz] at hb2;refine zF (codeAny_mono (F.run _ X.stack _ _ ⟨Value.ref e::us,[]⟩ (Value.ref e::us) _ _ E0 (hr.make C us []) (I2.env0.make C us []) hb2 r2 hq) fun rr s' hq'=>?_);cases rr with
 | error e=>exact hq'.elim
 | ok fl=>
  cases fl with
  | ret u=>
   obtain⟨v,H',I3,rv,ev,q3⟩:=I2.after hq';subst ev;exact⟨rv,⟨V.ref e,H',I3,rfl,q3⟩⟩
  | next=>exact False.elim hq'
  | brk=>exact False.elim hq'
  | cont=>exact False.elim hq'
theorem Dl {k:Nat} {f:Addr} {fd:FuncData} {ps:List Str} {sp:Sp} {e:Expr} {es:List Expr} {t:TA} (M:Kc X.K C HE f fl) (F:bI X.prog X.w X.K X.mg X.base gw k f fd ps sp) (hr:dN (k+1) X.A) (hb:Binds X.K fd ps []) (hm:X.mg x=some (.ref C))
  (ha:PA X (e::es) t) (hg:Gl X x:=by rfl) (hdb:(x==("__debug__" : Str))=false:=by decide) (he:starEach (e::es) X.env=(false,eval e X.env)::starEach es X.env:=by rfl) (hpl:(backTo pos (starEach es X.env)).any (·.1)=false:=by rfl) :
  PE X (.Call (.Name x p) (e::es) [] pos) (vG C sp t):=by
 refine .mk ?_;intro pins s σ H Q I h;refine CT (sE I hg hm ?_ hdb);refine PySem.W.callWith_K (h₀:=X.base) I.ok.mod.Nr M.kp (cu (ha pos pins s σ H _ I h) fun us s1 ⟨vs,H1,I1,r,q⟩=>⟨I1.kW,?_⟩) he hpl;exact zB M F hr hb I1 r q.1 q.2
end
section
variable {prog:Program} {w:World} {A:Around} {E:Value->Shared->Prop} {s:Shared} {K:PySem.W.Frag} {x D:Addr} {ox:Obj} {od:Option Obj}
structure Hj (K:PySem.W.Frag) (D:Addr):Prop where
 ga:PySem.W.findIn K (.ref D) "__getattribute__" = some (some (.builtin "BaseException.__getattribute__"))
 gt:PySem.W.findIn K (.ref D) "__getattr__" = some none
 fo:∀od,PySem.W.findObj K D od "__class__" = some (.bind (.builtin "getset_descriptor.__get__") (.builtin "object.__class__"))
 sb:PySem.W.subIn K (.ref D) (.type "BaseException")=some true
 ob:PySem.W.mroIn K D (.type "object")=some true
 cl:(PySem.W.clsIn K D).isSome=true
 hd:PySem.W.hasDictIn K D=true
theorem Hj.of (ga:PySem.W.findIn K (.ref D) "__getattribute__" = some (some (.builtin "BaseException.__getattribute__"))) (gt:PySem.W.findIn K (.ref D) "__getattr__" = some none) (fi:PySem.W.findIn K (.ref D) "__class__" = some (some (.builtin "object.__class__")))
  (sp:PySem.W.specialIn K (.builtin "object.__class__") "__get__" = some (some (.builtin "getset_descriptor.__get__"))) (tk:PySem.W.takesIn K (.builtin "object.__class__")=some true) (hd:PySem.W.hasDictIn K D=true)
  (sb:PySem.W.subIn K (.ref D) (.type "BaseException")=some true) (ob:PySem.W.mroIn K D (.type "object")=some true):Hj K D:=by
 obtain⟨cd,hc,_⟩:=PySem.W.any_some hd;refine⟨ga,gt,fun od=>?_,sb,ob,by rw[hc]; rfl,hd⟩
 unfold PySem.W.findObj;rw[hc,Option.bind_some,fi,Option.bind_some];simp[sp,tk]
theorem xf {Q:Option Value->Shared->Prop} (X:K.In s.heap) (I:PySem.W.InstAt s.heap x ox D od) (F:Hj K D) (q:Q (some (.ref D)) { s with toks:=s.toks+1 }):wpAny (model prog w) A (getAttr? (.ref x) "__class__") Q E s:=by
 obtain⟨hh,g,d,t,os⟩:=s;have L0:=I.type (M:=model prog w);have L1:=PySem.W.looks_findIn (M:=model prog w) X F.ga;have L2:=PySem.W.looks_findIn (M:=model prog w) X F.gt;have L3:=PySem.W.looks_find (M:=model prog w) X I (F.fo od);have L4:=PySem.W.looks_subIn (M:=model prog w) X F.sb;unfold getAttr? getAttrBy? getAttrBy;refine bJ (wpAny_mkText (bJ (wpAny_attempt (jX (bJ (L0.at (bJ (L1.at ?_))))))));have e2:(Value.builtin "BaseException.__getattribute__" == Value.builtin "object.__getattribute__")=false:=by decide +kernel
 have e3:(onTheHeap (Value.ref D)&&Value.builtin "BaseException.__getattribute__" == Value.builtin "object.__getattribute__")=false:=by rw[e2]; rfl
 dsimp only;rw[e3,bB (by decide)]
 unfold getAttrByItsOwn hookBefore;refine bJ ?_;rw[bj (by rfl)]
 refine L2.at ?_;have f3:=PySem.F.excAttr_ValueError.ga.bind (.ref x);have e0:(false&&onTheHeap (Value.builtin "BaseException.__getattribute__"))=false:=rfl;unfold callGetattribute boundAndCalled;simp only[e0];rw[bB (by decide)]
 refine bJ (wpAny_attempt (jX (bJ (wpAny_of_eq f3 ?_))));refine zF (codeAny_call_builtin PySem.F.excAttr_ValueError.ga.plain PySem.F.entry_bexc_ga ?_);show wpAny _ _ (checkBuiltinCall "BaseException.__getattribute__" ⟨[.ref x,.str "__class__" t],[]⟩) _ _ _;have hk:builtinKind "BaseException.__getattribute__" = some .slot:=by decide +kernel
 have hsp:splitId "BaseException.__getattribute__" = some ("BaseException","__getattribute__"):=by decide +kernel
 have hag:=PySem.F.args_bexc_ga (.ref x) (.str "__class__" t);simp only[checkBuiltinCall,hk,hsp];refine bJ ?_;unfold isInstance;refine bJ (L0.at (L4.at ?_))
 repeat (any_goals (first | assumption | wp_step))
 refine uz I.at_ (fG ?_);rw[I.cls];refine bJ (L3.at ?_);dsimp only;show wpAny _ _ (holding [Value.builtin "object.__class__"] (call (.builtin "getset_descriptor.__get__") [.builtin "object.__class__",.ref x,.ref D]) >>= ret) _ _ _;refine bJ (jX (zF (PySem.W.class_get X I F.ob ?_)));refine fG ?_;refine PySem.W.handed_on rfl ?_;exact fG q
theorem w6 {f:Str} {u:Value} {expr:Bool} {Q:Value->Shared->Prop} (X:K.In s.heap) (I:PySem.W.InstAt s.heap x ox D od) (F:Hj K D) (hf:PySem.W.findObj K D od f=some (.value u)) (hh:PySem.W.handedIn u=true) (q:Q u { s with toks:=s.toks+1 }) :
  wpAny (model prog w) A (getAttr (.ref x) f expr) Q E s:=by
 obtain⟨hh',g,d,t,os⟩:=s;have L0:=I.type (M:=model prog w);have L1:=PySem.W.looks_findIn (M:=model prog w) X F.ga;have L2:=PySem.W.looks_findIn (M:=model prog w) X F.gt;have L3:=PySem.W.looks_find (M:=model prog w) X I hf;have L4:=PySem.W.looks_subIn (M:=model prog w) X F.sb;unfold getAttr getAttrBy;refine bJ (wpAny_mkText (jX (bJ (L0.at (bJ (L1.at ?_))))));have e2:(Value.builtin "BaseException.__getattribute__" == Value.builtin "object.__getattribute__")=false:=by decide +kernel
 have e3:(onTheHeap (Value.ref D)&&Value.builtin "BaseException.__getattribute__" == Value.builtin "object.__getattribute__")=false:=by rw[e2]; rfl
 dsimp only;rw[e3,bB (by decide)]
 unfold getAttrByItsOwn hookBefore;refine bJ ?_;rw[bj (by rfl)]
 refine L2.at ?_;have f3:=PySem.F.excAttr_ValueError.ga.bind (.ref x);have e0:(expr&&onTheHeap (Value.builtin "BaseException.__getattribute__"))=false:=by cases expr <;> rfl
 unfold callGetattribute boundAndCalled;simp only[e0];rw[bB (by decide)]
 refine bJ (wpAny_attempt (jX (bJ (wpAny_of_eq f3 ?_))));refine zF (codeAny_call_builtin PySem.F.excAttr_ValueError.ga.plain PySem.F.entry_bexc_ga ?_);show wpAny _ _ (checkBuiltinCall "BaseException.__getattribute__" ⟨[.ref x,.str f t],[]⟩) _ _ _;have hk:builtinKind "BaseException.__getattribute__" = some .slot:=by decide +kernel
 have hsp:splitId "BaseException.__getattribute__" = some ("BaseException","__getattribute__"):=by decide +kernel
 have hag:=PySem.F.args_bexc_ga (.ref x) (.str f t);simp only[checkBuiltinCall,hk,hsp];refine bJ ?_;unfold isInstance;refine bJ (L0.at (L4.at ?_))
 repeat (any_goals (first | assumption | wp_step))
 refine uz I.at_ (fG ?_);rw[I.cls];refine bJ (L3.at ?_);dsimp only;refine fG ?_;show wpAny _ _ (handedOut u) _ _ _;rw[PySem.W.handedOut_of hh];exact fG q
theorem Af (F:Hj K D):PySem.W.KitX K (.ref x) (.ref D) (fun h=>∃ox od,PySem.W.InstAt h x ox D od) where
 ty:=fun _ _ _ ⟨_,_,I⟩=>I.type
 it:=fun _ _ X _=>by
  obtain⟨cdD,hcD⟩:=vQ.mp F.cl;unfold PySem.W.clsIn at hcD;split at hcD
  ·rename_i c' d' cd' sl' ho;intro A' Q' E' s' k q;unfold isType loadHead;exact bJ (wpAny_loadPart (k _ _ (X _ _ ho)) (fG q))
  ·cases hcD
 ne:=fun h tp dd its n sl X htp=>by
  obtain⟨cdD,hcD⟩:=vQ.mp F.cl;refine Bool.eq_false_iff.mpr fun q=>?_;have e:D=tp:=Value.ref.inj (beq_iff_eq.mp q);subst e;unfold PySem.W.clsIn at hcD;split at hcD
  ·rename_i c' d' cd' sl' ho;have z:=(X _ _ ho).symm.trans htp;cases z
  ·cases hcD
 ca:=fun X ⟨_,_,I⟩ k=>xf X I F k
end
section
variable {X:Cx} {pins:List (Addr×Obj)} {σ:St} {H:Hp} {s:Shared} {a C:Addr} {f:Str} {v:V}
theorem kJ.inst (I:Inv X pins σ H s) (h:kJ H a C f v):∃ox od u,PySem.W.InstAt s.heap a ox C (some od)/\PySem.W.lookIn f od=some (some u)/\RelV v u:=by
 obtain⟨dx,h1,h2⟩:=h;obtain⟨⟨oe,fs,e1,e2,e3,e4,_⟩,_,_⟩:=I.hok a _ h1;obtain⟨mA,⟨od,es,ep,ho,hd,hk,hu,hf⟩,r⟩:=I.hok dx _ h2;have rf:=r f;rw[show List.lookup f [(f,v)]=some v by simp[List.lookup]] at rf
 cases hm:mA f with
 | none=>rw[hm] at rf; exact rf.elim
 | some u=>
  rw[hm] at rf;refine⟨oe,od,u,⟨e1,e2,?_,?_⟩,?_,rf⟩
  ·obtain⟨c,dd,dt,sl⟩:=oe;cases e4;rfl
  ·obtain⟨c,dd,dt,sl⟩:=oe;cases e3;exact ho
  ·unfold PySem.W.lookIn;rw[hd];dsimp only;have:=hf f;rw[hm] at this;unfold nsFind findBy at this;rw[<- Array.find?_toList] at this;cases hq:es.toList.find? (·.key.isStr f) with
   | none=>rw[hq] at this; cases this
   | some en=>
    rw[hq] at this;have ev:some en.val=some u:=this;show some (some en.val)=_;rw[Option.some.inj ev]
def Hy (ta:TE) (C:Addr) (f:Str):TE:=fun σ H Q=>ta σ H fun x H1=>∃a v,x=.ref a/\kJ H1 a C f v/\Q v H1
theorem yr {K:PySem.W.Frag} {e:Expr} {ta:TE} {pos:Pos} {HE:Addr} (hK:X.K=K) (F:Hj K C) (S:M7 K C HE f) (he:PE X e ta) (hb:attributeBase e f X.env (eval e X.env)=eval e X.env:=by rfl):PE X (.Attribute e f pos) (Hy ta C f):=by
 subst hK;refine .mk ?_;intro pins s σ H Q I h;refine G_ hb (cu (he pins s σ H _ I h) fun u s1 qx=>?_);obtain⟨x,H1,I1,rx,a,v,ex,ea,q⟩:=qx;subst ex;obtain rfl:u=Value.ref a:=rx;obtain⟨ox,od,u,J,hl,ru⟩:=ea.inst I1;exact w6 I1.kW J F (PySem.W.findObj_own F.hd S.nf rfl (by rw[hl])) (Aq ru) ⟨v,H1,I1.tok _,ru,q⟩
theorem cQ {K:PySem.W.Frag} (hK:X.K=K):cB X (.builtin "isinstance") (fun vs H Q=>∃(a D:Addr) (c:V) (cv:Value) (b:Bool) (f:Str) (v:V),vs=[.ref a,c]/\kJ H a D f v/\Hj K D/\RelV c cv/\(∀u,RelV c u->u=cv)/\PySem.W.kitOne K (.ref D) cv=some b/\Q (.bl b) H):=by
 subst hK;refine .mk ?_;intro pins s σ H vs us Q I r h;obtain⟨a,D,c,cv,b,f,v,rfl,ha,F,rc,un,e,q⟩:=h;obtain⟨u,t,rfl,ru,rt⟩:=r.two;cases(show u=Value.ref a from ru);obtain rfl:=un t rt;obtain⟨ox,od,_,J,_,_⟩:=ha.inst I;exact PySem.W.kia_one (Af F) I.kW ⟨ox,_,J⟩ e (fun z=>nomatch z) fun tk=>⟨.bl b,H,I.tok tk,rfl,q⟩
end
def yc (t1 t2:TE):TE:=fun σ H Q=>t1 σ H Q\/t2 σ H Q
theorem zU {X:Cx} {e:Expr} {t1 t2:TE} (h1:PE X e t1) (h2:PE X e t2):PE X e (yc t1 t2):=by
 refine .mk ?_;intro pins s σ H Q I h;rcases h with h | h
 ·exact h1 pins s σ H Q I h
 ·exact h2 pins s σ H Q I h
structure Ku (P:Program) (w:World) (K:PySem.W.Frag) (mg:Str->Option Value) (base:Heap) (k:Nat) (C:Addr) (x:Str) (ps:List Str) (sp:Sp) where
 f:Addr
 fd:FuncData
 j:Nat
 hj:j+1<=k
 HE:Addr
 fl:Str
 G:bI P w K mg base gw j f fd ps sp
 M:Kc K C HE f fl
 b:Binds K fd ps []
 m:mg x=some (.ref C)
def Ku.mono {P:Program} {w:World} {K:PySem.W.Frag} {mg:Str->Option Value} {base:Heap} {j k:Nat} {C:Addr} {m:Str} {ps:List Str} {sp:Sp} (c:Ku P w K mg base j C m ps sp) (h:j<=k):Ku P w K mg base k C m ps sp:={ c with hj:=dC c.hj h }
theorem QQ {X:Cx} {k:Nat} {C:Addr} {x:Str} {ps:List Str} {sp:Sp} {e:Expr} {es:List Expr} {t:TA} {p pos:Pos} (c:Ku X.prog X.w X.K X.mg X.base k C x ps sp) (hr:dN k X.A) (ha:PA X (e::es) t) (hg:Gl X x:=by rfl) (hdb:(x==("__debug__" : Str))=false:=by decide)
  (he:starEach (e::es) X.env=(false,eval e X.env)::starEach es X.env:=by rfl) (hpl:(backTo pos (starEach es X.env)).any (·.1)=false:=by rfl):PE X (.Call (.Name x p) (e::es) [] pos) (vG C sp t):=
 Dl c.M c.G (hr.mono c.hj) c.b c.m ha hg hdb he hpl
section
variable {K:PySem.W.Frag} {C HE f:Addr} {fl:Str}
theorem Kc.of {nm q:Str} {N:Addr} {bs:List Value} {sn:List Str} {sub:List Value} {ab:Bool} {col:Option Bool} {dd:Option Addr} {k0 k1 k2 k3 k5:Option Value} {c:Value} {d:Option Addr} {es:Array DictEntry} {n:Nat} {sl:Array (Option Value)}
  (l:K.lookup C=some (excClassObj nm q C N bs (.ref HE::y_) true sn sub ab col dd k0 k1 k2 k3 k5 "ValueError.__new__")) (he:PySem.W.excIn K HE y_ "ValueError.__new__" = true) (sa:PySem.W.findIn K (.ref C) "__setattr__" = some (some (.builtin "object.__setattr__")))
  (nf:PySem.W.findIn K (.ref C) fl=some none) (init:PySem.W.findIn K (.ref C) "__init__" = some (some (.ref f))) (ln:K.lookup N=some ⟨c,d,.dict es n,sl⟩) (ok:(es.all fun e=>match e.key with | .str _ _=>true | _=>false)=true)
  (ni:PySem.W.nsIn K N "__init__" = some (some (.ref f))) (fn:PySem.W.isFn K (.ref f)=true) (kp:PySem.W.keepIn K (.ref C)=true):Kc K C HE f fl:=by
 refine⟨⟨⟨nm,q,N,bs,sn,sub,ab,col,dd,k0,k1,k2,k3,k5,l⟩,he,sa,nf⟩,init,⟨N,?_,ni,?_⟩,fn,kp⟩
 ·unfold PySem.W.clsIn;rw[l];rfl
 ·unfold PySem.W.nsOkIn;rw[ln];exact ok
abbrev N7 (K:PySem.W.Frag) (x qual:Str) (st:Stmt) (f:Addr):Prop:=∃(oc:Value) (od an:Option Addr) (sl:Array (Option Value)) (kV dc pm cd ct:Value),K.lookup f=some ⟨oc,od,.func (PySem.W.fnOf x qual (dI st) (dq st) (aF st) .none kV dc pm an cd ct),sl⟩/\PySem.W.codeIn K cd qual=true/\PySem.W.keepIn K (.ref f)=true
theorem N7.mk {x qual:Str} {st:Stmt} {f:Addr} {oc:Value} {od an:Option Addr} {sl:Array (Option Value)} {kV dc pm cd ct:Value} (l:K.lookup f=some ⟨oc,od,.func (PySem.W.fnOf x qual (dI st) (dq st) (aF st) .none kV dc pm an cd ct),sl⟩) (c:PySem.W.codeIn K cd qual=true) (k:PySem.W.keepIn K (.ref f)=true):N7 K x qual st f:=⟨oc,od,an,sl,kV,dc,pm,cd,ct,l,c,k⟩
end
end L2
namespace L2
open PySem PySem.Spec PyProof.Rows
abbrev TAX:=St->Hp->(List V->Hp->Prop)->(Value->Hp->Hp->Prop)->Prop
structure Wf (X:Cx) (es:List Expr) (t:TAX):Prop where
 mk ::
 go:∀(pos:Pos) (pins:List (Addr×Obj)) (s:Shared) (σ:St) (H:Hp) (Q:List V->Hp->Prop) (EE:Value->Hp->Hp->Prop),Inv X pins σ H s->t σ H Q EE->wpAny (model X.prog X.w) X.A (spliced (backTo pos (starEach es X.env))) (AP X pins σ Q) (XL X pins σ EE) s
section
variable {X:Cx}
end
theorem M6.gt {K:PySem.W.Frag} {mg:Str->Option Value} {x:Str} {W:List V} (h:M6 K mg x W):GT K mg x W:=by
 obtain⟨a,h1,_,h3⟩:=h;exact⟨a,h1,h3⟩
end L2
namespace L2
open PySem PySem.Spec PyProof.Rows PySem.MeetsSeq3
section
variable {X:Cx}
end
end L2
namespace L2
open PySem PySem.Spec PyProof.Rows PySem.MeetsSeq3
section
variable {X:Cx}
end
end L2
namespace L2
open PySem PySem.Spec PyProof.Rows
section
variable {X:Cx}
end
end L2
namespace L2
open PySem
structure We (H:Hp) (as:List Addr) (N:Nat):Prop where
 tp:∀a∈as,∃n,n<=N/\Tp H a n
end L2
namespace L2
open PySem
end L2
namespace L2
open PySem PySem.Spec PyProof.Rows
section
variable {X:Cx}
end
end L2
namespace Qm
open PySem L2
def top (i:Nat):Stmt:=PySem.Challenge.pw_waithands_k97_whole_things_of_any_make.main.body.getD i (.Pass ⟨0,0,0,0⟩)
abbrev jA:Stmt:=top 7
abbrev lC:Stmt:=top 8
abbrev gB:Stmt:=top 9
abbrev fV:Stmt:=top 10
abbrev lB:Stmt:=top 22
abbrev cG:Stmt:=top 23
abbrev iy:Stmt:=top 24
abbrev iw:Stmt:=top 25
abbrev lA:Stmt:=top 26
abbrev nO:Stmt:=top 27
abbrev jB:Stmt:=top 28
abbrev iz:Stmt:=top 29
abbrev gC:Stmt:=top 30
abbrev nH:Stmt:=top 43
abbrev nM:Stmt:=top 44
abbrev jz:Stmt:=top 45
abbrev lg:Stmt:=top 46
abbrev rz:Stmt:=top 47
abbrev lr:Stmt:=top 48
abbrev nJ:Stmt:=top 49
abbrev lq:Stmt:=top 50
abbrev iu:Stmt:=top 51
abbrev jV:Stmt:=top 52
abbrev mR:Stmt:=top 53
abbrev lu:Stmt:=top 54
abbrev nG:Stmt:=top 55
abbrev bU:Stmt:=inClass (top 41) 0
structure Bi (mg:Str->Option Value):Prop where
 isinstance:mg "isinstance" = none
 int:mg "int" = none
 bool:mg "bool" = none
 tuple:mg "tuple" = none
 len:mg "len" = none
 all:mg "all" = none
 sum:mg "sum" = none
 abs:mg "abs" = none
 list:mg "list" = none
 enumerate:mg "enumerate" = none
 max:mg "max" = none
 range:mg "range" = none
 min:mg "min" = none
 ValueError:mg "ValueError" = none
 dict:mg "dict" = none
 str:mg "str" = none
 any:mg "any" = none
structure Co (K:PySem.W.Frag) (mg:Str->Option Value):Prop where
 Ih:M6 K mg "WHATS" KR
 OVER:Gs mg "OVER" "over"
 UNDER:Gs mg "UNDER" "under"
 EACH:Gs mg "EACH" "each"
 jL:Gi mg "MOST_UNITS" 1000000000000
 gQ:Gi mg "MOST_HANDS" 12
 Bk:Gi mg "MOST_PACE" 1000000
 Bl:Gi mg "MOST_LATE" 4
 xT:Gi mg "MOST_EVERY" 6
 qL:Gi mg "MOST_REST" 9
 xR:Gi mg "MOST_RULES" 3
 Bj:Gi mg "MOST_ROWS" 4
 Bh:Gi mg "MOST_SPAN" 4
 pQ:Gi mg "PLACES_CALLED" 5
 xQ:Gi mg "MOST_SINCE" 5
 tO:Gi mg "TRIPLES_SEEN" 3
local macro_rules | `(tactic| walk_at "o")=>`(tactic| first | exact Or.inl rfl | exact Or.inr rfl)
local macro_rules | `(tactic| walk_at "c")=>`(tactic| exact⟨rfl,rfl,rfl,by decide +kernel,rfl,by decide +kernel,by decide +kernel⟩)
local macro_rules | `(tactic| walk_at "rd")=>`(tactic| simp only[L2.start,gR,List.map_nil,fj,CG,Nat.reduceAdd,Nat.reduceSub,List.replicate,List.cons_append,List.nil_append,Cz,
 Fi,La,K4,K3,Hw,BV,km,Hz,Ft,Fq,Cp,Fy,if_true,if_false,Bool.false_eq_true,Bool.not_true,Bool.not_false,Fx,Fw,Jf,Jc,Je,Jb,Fz,FJ,Cq,Fv,Jd,Ln,tC,Fj,Qw,FN,rI,rU,BR,Le,Qy,K8,HB,K7,Hv,Qz,lZ,IV,fZ,uf,tB,vH,Qx,xZ,Hu,Mv,K6,K_,IK,x_,Ht,Oe,Og,K5,Ld,R3,K9,Od])
section
variable {P:Program} {w:World} {K:PySem.W.Frag} {mg:Str->Option Value} {base:Heap} {f:Addr} {fd:FuncData} {k:Nat}
theorem Ds {X:Cx}:jm X (binaryOp .FloorDiv) (rI (fun _ j=>0<j/\j<10 ^ 60) fun i j=>.int (i / j)):=L_ fun i j _ _ _ _ _ hc q=>by
 have h1:(0:Int)<j:=hc.1;have h2:j<10 ^ 60:=hc.2;refine PyProof.Rows.floordiv_int (by omega) (by rw[Int.fdiv_eq_ediv_of_nonneg i (by omega)]; exact q) (.inl (PyProof.noPylong_of_log2 ?_))
 have:j.natAbs<10 ^ 60:=by omega
 by_cases z:j.natAbs=0
 ·omega
 ·have h3:j.natAbs<2 ^ 1000:=Nat.lt_trans this (by decide +kernel)
  have:=(Nat.log2_lt z).mpr h3;omega
structure gP where
 w:Str
 s:Nat
 g:Str
 n:Int
 t:Int
def jC (r:gP):PyData:=.tuple [.str r.w,.int r.s,.str r.g,.int r.n,.int r.t]
def fO (rs:List gP):PyData:=.tuple (rs.map jC)
def Cj (iZ:List (List gP)):PyData:=.tuple (iZ.map fO)
structure Ij (r:gP):Prop where
 w:r.w∈(["come","done","wait"]:List Str)
 s:1<=r.s/\r.s<=4
 n:0<=r.n/\r.n<=1000000000000
 e:r.g = "each" -> 1<=r.n
def jx (l:List Int):PyData:=.tuple (l.map .int)
structure Qk (tR:List (List Int)):Prop where
 n:tR.length=4
 l:∀x∈tR,x.length=3
def BP (w:Str) (s:Nat) (tR:List (List Int)):Int:=((tR.take s).map fun l=>l.getD (Iu w) 0).sum
def says (r:gP) (h:Int) (tR:List (List Int)):Option Int:=
 if r.g = "each" then some ((BP r.w r.s tR+r.n*r.s-1) / (r.n*r.s))
 else if(r.g = "over" /\ BP r.w r.s tR>r.n*r.s)\/(r.g = "under" /\ BP r.w r.s tR<r.n*r.s) then some (h+r.t) else none
theorem aq.bR {H:Hp} {d:PyData} {ds:List PyData} {xs:List V} (h:aq H (d::ds) xs):∃x r,xs=x::r/\At H d x/\aq H ds r:=by unfold aq at h; exact h
theorem aq.xW {H:Hp} {xs:List V} (h:aq H [] xs):xs=[]:=by unfold aq at h; exact h
theorem kI {H:Hp}:∀cs:List Int,aq H (cs.map .int) (cs.map V.int)
 | []=>aq.nil
 | c::cs=>aq.cons (At.int c) (kI cs)
def Ly (d0 d1 d3 d4 d5:PyData) (l m:Int) (iZ:List (List gP)):PyData:=.tuple [d0,d1,.tuple [.int l,.int m],d3,d4,d5,Cj iZ]
theorem GX {n j:Nat} (h:j<n):GZ n (j:Int)=some j:=by
 unfold GZ;rw[bj (by omega),bj (by omega),rA]
structure Hf where
 w:Int
 r:Int
 cs:List Int
 s:Int
 t:Int
 us:List (List Int)
def Br (x:Hf):PyData:=.tuple [.int x.w,.int x.r,.tuple (x.cs.map .int),.int x.s,.int x.t,.tuple (x.us.map jx)]
structure Vc (x:Hf):Prop where
 c:x.cs.length=5
 u:x.us.length=3
 l:∀y∈x.us,y.length=3
structure Ik where
 p:Int
 m:Int
 lo:Int
 hi:Int
 a:Nat
 e:Int
 u:Int
 d:Int
 iZ:List (List gP)
def gZ (x:Ik):PyData:=Ly (.int x.p) (.int x.m) (.int x.a) (.int x.e) (.tuple [.int x.u,.int x.d]) x.lo x.hi x.iZ
structure Vd (x:Ik):Prop where
 a:x.a<=4
 p:0<=x.p/\x.p<=1000000
 n:x.iZ.length<=100
 g:∀rs∈x.iZ,∀r∈rs,Ij r
def B_ (K:PySem.W.Frag):Sp:=fun vs H Q _=>∃(s:Addr) (ns:List Int) (i:Int),vs=[.ref s,.int i]/\fJ K H s (ns.map V.int)/\0<=i/\i<=1000/\∀p H',H p=none->aH H H'->Tp H' p 0->Q (.ref p) H'
theorem pZ:aW ["_law_script","_law_k","_law_cell"] ["_law_script","_law_k"] (aF nH):=(by walk_at "c")
theorem zX (F:iV K "_law_tape" "_law_tape" nH f fd) (B:Bi mg):bI P w K mg base gw (k+1) f fd ["_law_script","_law_k"] (B_ K):=by
 refine F.ok pZ (by rintro vs H Q E ⟨a,ns,i,rfl,_⟩; rfl) (fun cdv A outer s H vs Q E hr h=>?_)
 obtain⟨a,ns,i,rfl,hS,h0,h1,q⟩:=h;have ND:=pZ.nd;refine⟨_,(au (bc (i:=2) ND rfl (by walk_at "o") (cP (bz Dr (pv 1) (pb (dY (K:=K) rfl) B.len jK (aj (pv 0) aa)) (aZ _)) (cZ yz (pv 0) (pv 1) (fun _ _=>rfl)) ak)) (aB (aM (Dm (aj (aN iG (pb (u0) B.abs Ep (aj (pv 2) aa)) (pt (je) B.int o9 (aj (cM HS (pb (u0) B.abs Ep (aj (pv 2) aa)) (aN iD ak ak) (aZ _)) aa))) (aj (aN bC (aN bC (aN fu (pv 2) ak) (aN iG ak (pv 1))) ak) (aj ak aa))))))),?_⟩
 walk_at "rd";refine⟨a,_,rfl,.inl hS,?_⟩;show ∃R4 j,V.int i=V.int R4/\V.int ((ns.map V.int).length:Int)=V.int j/\_;walk_at "rd";have J5:∀c:Int,0<=(if c<0 then -c else c):=fun c=>by split <;> omega
 have fin:∀(c x y:Int),x=(if c<0 then -c else c)*(if decide (10 ^ Int.toNat 18<=(if c<0 then -c else c))=true then 1 else 0)->y=c % 2305843009213693951+39373*i+17->∀p,H p=none->Q (.ref p) (upd H p (.lst [.int x,.int y,.int 0])):=fun c x y ex ey p hp=>by
  have hx:0<=x:=by
   rw[ex];have nn:=J5 c;generalize (if c<0 then -c else c)=u at nn ⊢
   split
   ·rw[Int.mul_one]; exact nn
   ·rw[Int.mul_zero]; exact Int.le_refl 0
  have h2:=vM c (show(2305843009213693951:Int)≠0 by decide)
  have h3:=vP c (show(0:Int)<2305843009213693951 by decide)
  exact q p _ hp (aK hp _) ⟨x,y,0,aA,hx,by omega,by omega,Int.le_refl 0,Int.le_refl 0⟩
 have cm:∀(c:Int) (b:Bool),Hl c (if b=true then 1 else 0):=fun c b=>.inr (by cases b <;> decide)
 refine bu (fun c1=>?_) (fun c1=>?_)
 ·have c1':=jj c1;have hi:i.toNat<ns.length:=by rw[jh] at c1'; omega
  refine⟨a,_,i,.int (ns[i.toNat]),rfl,rfl,hS,?_,?_⟩
  ·have:=bV (xs:=ns.map V.int) (j:=i.toNat) (v:=.int (ns[i.toNat])) (by rw[gU,pB hi]; rfl)
   rwa [show((i.toNat:Nat):Int)=i by omega] at this
  ·walk_at "rd";refine⟨⟨by decide,by decide,by decide⟩,cm _ _,by decide,.inl (by decide),(by show 3<=sizeLine; decide),fun p hp=>?_⟩
   exact fin _ _ _ rfl rfl p hp
 ·refine⟨⟨by decide,by decide,by decide⟩,cm _ _,by decide,.inl (by decide),(by show 3<=sizeLine; decide),fun p hp=>?_⟩
  exact fin 0 _ _ rfl rfl p hp
def fU:Sp:=fun vs H Q _=>∃(a:Addr) (m:Int) (n:Nat),vs=[.ref a,.int m]/\Tp H a n/\n<=1000000000/\0<m/\m<1000000000000000/\∀v H',0<=v->v<m->Tp H' a (n+1)->SX a H H'->Q (.int v) H'
theorem qb:aW ["_law_tape_here","_law_many","_law_found","_law_once","_law_twice"] ["_law_tape_here","_law_many"] (aF nM):=(by walk_at "c")
theorem z6 (F:iV K "_law_draw" "_law_draw" nM f fd) (B:Bi mg):bI P w K mg base gw (k+1) f fd ["_law_tape_here","_law_many"] fU:=by
 refine F.ok qb (by rintro vs H Q E ⟨a,m,n,rfl,_⟩; rfl) (fun cdv A outer s H vs Q E hr h=>?_)
 obtain⟨a,m,n,rfl,⟨x,y,z,hT,hx,hy,hy2,hz,hz2⟩,hn,hm,hm2,q⟩:=h;have ND:=qb.nd;refine⟨_,(au (cO (bz yt (cZ bT (pv 0) ak (fun _ _=>rfl)) ak (aZ _)) (au (bc (i:=2) ND rfl (by walk_at "o") (aN fu (cZ bT (pv 0) ak (fun _ _=>rfl)) (pv 1))) (au (jH (aN Ds (cZ bT (pv 0) ak (fun _ _=>rfl)) (pv 1)) (vX (pv 0) ak set_list)) (aB (aM (pv 2))))) bw) (au (jH (aN bC (cZ bT (pv 0) ak (fun _ _=>rfl)) ak) (vX (pv 0) ak set_list)) (au (bc (i:=3) ND rfl (by walk_at "o") (aN fu (aN iD (aN bC (cZ bT (pv 0) ak (fun _ _=>rfl)) (aN iG ak (cZ bT (pv 0) ak (fun _ _=>rfl)))) ak) ak)) (au (bc (i:=4) ND rfl (by walk_at "o") (aN fu (aN iG (aN bC (pv 3) (cZ bT (pv 0) ak (fun _ _=>rfl))) (aN bC (aN bC (aN fu (pv 3) ak) ak) (cZ bT (pv 0) ak (fun _ _=>rfl)))) ak)) (aB (aM (aN fu (aN Gu (aN fu (aN bC (aN iG (pv 4) ak) (pv 3)) ak) ak) (pv 1)))))))),?_⟩
 walk_at "rd";refine Ix.lst hT (bV (j:=0) rfl) ?_;walk_at "rd";refine bu (fun c1=>?_) (fun c1=>?_)
 ·refine Ix.lst hT (bV (j:=0) rfl) ?_;walk_at "rd";refine⟨hm,Ix.lst hT (bV (j:=0) rfl) ?_⟩;walk_at "rd";refine⟨⟨hm,Int.lt_trans hm2 (by decide)⟩,a,_,0,0,rfl,rfl,hT,rfl,?_⟩
  refine q _ _ (vM _ (by omega)) (vP _ hm) ⟨x / m,y,z,aA,Int.ediv_nonneg hx (by omega),hy,hy2,hz,by omega⟩ SX.upd
 ·refine Ix.lst hT (bV (j:=2) rfl) ?_;walk_at "rd";refine⟨a,_,2,2,rfl,rfl,hT,rfl,?_⟩;have hT2:upd H a (.lst [.int x,.int y,.int (z+1)]) a=some (.lst [.int x,.int y,.int (z+1)]):=aA;show zE (V.ref a) (V.int 1) (upd H a (.lst [.int x,.int y,.int (z+1)])) _;generalize eH:upd H a (.lst [.int x,.int y,.int (z+1)])=H2 at hT2 ⊢;have sx:SX a H H2:=by rw[<- eH]; exact SX.upd
  refine Ix.lst hT2 (bV (j:=1) rfl) (Ix.lst hT2 (bV (j:=2) rfl) ?_);walk_at "rd";refine⟨.inl (by decide),⟨by decide,by decide,by omega⟩,by decide,Ix.lst hT2 (bV (j:=2) rfl) ?_⟩
  generalize eo:(y+39373*(z+1)) ^ Int.toNat 5 % 2147483647=o;have o1:0<=o:=by rw[<- eo]; exact vM _ (by decide)
  have o2:o<2147483647:=by rw[<- eo]; exact vP _ (by decide)
  walk_at "rd";refine⟨by decide,Ix.lst hT2 (bV (j:=2) rfl) ?_⟩
  walk_at "rd";have m1:=vM o (show(40009:Int)≠0 by decide)
  have m2:=vP o (show(0:Int)<40009 by decide)
  refine⟨.inl (by omega),by decide,?_⟩
  generalize et:(o+(z+1))*(o % 40009+7+(z+1)) % 2147483629=t;have t1:0<=t:=by rw[<- et]; exact vM _ (by decide)
  have t2:t<2147483629:=by rw[<- et]; exact vP _ (by decide)
  refine⟨.inl (by omega),by decide,⟨by decide,by decide⟩,hm,?_⟩
  exact q _ _ (vM _ (by omega)) (vP _ hm) ⟨x,y,z+1,hT2,hx,hy,hy2,by omega,by omega⟩ sx
theorem cJ.of {a:Addr} {m:Int} {n:Nat} {H:Hp} {Q:VK} {E:XK} (t:Tp H a n) (hn:n<=1000000000) (h1:0<m) (h2:m<1000000000000000) (q:∀v H',0<=v->v<m->Tp H' a (n+1)->SX a H H'->Q (.int v) H'):fU ([.ref a,.int m]++[]) H Q E:=⟨a,m,n,rfl,t,hn,h1,h2,q⟩
def jP:Sp:=fun vs H Q _=>∃(a:Addr) (n:Nat),vs=[.ref a]/\Tp H a n/\n<=900000000/\∀v H',0<=v->v<=1000000000000->Tp H' a (n+4)->SX a H H'->Q (.int v) H'
theorem qK.of {a:Addr} {n:Nat} {H:Hp} {Q:VK} {E:XK} (t:Tp H a n) (hn:n<=900000000) (q:∀v H',0<=v->v<=1000000000000->Tp H' a (n+4)->SX a H H'->Q (.int v) H'):jP ([.ref a]++[]) H Q E:=⟨a,n,rfl,t,hn,q⟩
theorem m8:aW ["_law_tape_here","_law_way","_law_great"] ["_law_tape_here"] (aF lg):=(by walk_at "c")
theorem vY (F:iV K "_law_units" "_law_units" lg f fd) (B:Bi mg) (aD:Ct P w K mg base k "_law_draw" ["_law_tape_here","_law_many"] fU):bI P w K mg base gw (k+1) f fd ["_law_tape_here"] jP:=by
 refine F.ok m8 (by rintro vs H Q E ⟨a,n,rfl,_⟩; rfl) (fun cdv A outer s H vs Q E hr h=>?_)
 obtain⟨a,n,rfl,tp,hn,q⟩:=h;have ND:=m8.nd;refine⟨_,(au (bc (i:=1) ND rfl (by walk_at "o") (pf aD hr (aj (pv 0) (aj ak aa)))) (au (cO (bz Dr (pv 1) ak (aZ _)) (aB (aM (pf aD hr (aj (pv 0) (aj ak aa))))) bw) (au (cO (bz fQ (pv 1) ak (aZ _)) (aB (aM (pf aD hr (aj (pv 0) (aj ak aa))))) bw) (au (bc (i:=2) ND rfl (by walk_at "o") (aN bC (aN iG (pf aD hr (aj (pv 0) (aj (aN iD ak ak) aa))) (aN iD ak ak)) (pf aD hr (aj (pv 0) (aj (aN iD ak ak) aa))))) (aB (aM (cP (bz fQ (pv 1) ak (aZ _)) (pv 2) (aN rK (aN iD ak ak) (aN fu (pv 2) ak))))))))),?_⟩
 walk_at "rd";refine cJ.of tp (by omega) (by decide) (by decide) fun v1 H1 l1 u1 t1 s1=>?_
 walk_at "rd";refine bu (fun c1=>?_) (fun c1=>?_)
 ·refine cJ.of t1 (by omega) (by decide) (by decide) fun v2 H2 l2 u2 t2 s2=>?_
  exact q v2 H2 l2 (by omega) (t2.mono (by omega)) (s1.trans s2)
 ·refine bu (fun c2=>?_) (fun c2=>?_)
  ·refine cJ.of t1 (by omega) (by decide) (by decide) fun v2 H2 l2 u2 t2 s2=>?_
   exact q v2 H2 l2 (by omega) (t2.mono (by omega)) (s1.trans s2)
  ·refine⟨⟨by decide,by decide,by decide⟩,?_⟩
   refine cJ.of t1 (by omega) (by decide) (by decide) fun v2 H2 l2 u2 t2 s2=>?_
   walk_at "rd";have e6:(10:Int) ^ Int.toNat 6=1000000:=by decide
   have JV:(10:Int) ^ Int.toNat 12=1000000000000:=by decide
   rw[e6] at u2;refine⟨⟨by decide,by decide,by decide⟩,.inr (by decide),⟨by decide,by decide,by decide⟩,?_⟩
   refine cJ.of t2 (by omega) (by decide) (by decide) fun v3 H3 l3 u3 t3 s3=>?_
   rw[e6] at u3;walk_at "rd";rw[e6,JV];refine bu (fun c3=>?_) (fun c3=>?_)
   ·exact q _ H3 (by omega) (by omega) (t3.mono (by omega)) (s1.trans (s2.trans s3))
   ·have m1:=vM (v2*1000000+v3) (show(3:Int)≠0 by decide)
    have m2:=vP (v2*1000000+v3) (show(0:Int)<3 by decide)
    exact⟨⟨by decide,by decide,by decide⟩,by decide,q _ H3 (by omega) (by omega) (t3.mono (by omega)) (s1.trans (s2.trans s3))⟩
def Ey (i:Int):Prop:=0<=i/\i<=1000000000000
def Ii (u:List Int):Prop:=∃a b c,u=[a,b,c]/\Ey a/\Ey b/\Ey c
structure NP (x:Hf):Prop where
 w:Ey x.w
 r:0<=x.r
 c:x.cs.length=5
 cn:∀y∈x.cs,0<=y
 sm:x.r+x.cs.sum<=12
 s:0<=x.s/\x.s<=5
 t:0<=x.t/\x.t<=9
 u:x.us.length=3
 ul:∀y∈x.us,Ii y
def yd:Sp:=fun vs H Q _=>∃(a:Addr) (n:Nat),vs=[.ref a]/\Tp H a n/\n<=100000000/\∀p x H',NP x->At (hid a H') (Br x) (.ref p)->Tp H' a (n+60)->SX a H H'->Q (.ref p) H'
theorem m9:aW ["_law_tape_here","_law_left","_law_called","_law_k","_law_seen"] ["_law_tape_here"] (aF lq):=(by walk_at "c")
theorem vZ (F:iV K "_law_stand" "_law_stand" lq f fd) (B:Bi mg) (aD:Ct P w K mg base k "_law_draw" ["_law_tape_here","_law_many"] fU) (dB:Ct P w K mg base k "_law_units" ["_law_tape_here"] jP) :
  bI P w K mg base gw (k+1) f fd ["_law_tape_here"] yd:=by
 refine F.ok m9 (by rintro vs H Q E ⟨a,n,rfl,_⟩; rfl) (fun cdv A outer s H vs Q E hr h=>?_)
 obtain⟨a,n,rfl,tp,hn,q⟩:=h;have ND:=m9.nd;refine⟨_,(au (rE (i:=1) (j:=2) rfl ND rfl rfl (by decide) rfl rfl (aj ak (aj (Dm aa) aa)) (by rfl)) (au (lM PassesOwn.never rfl (dz (by rfl) B.range (aj ak aa)) (aV (i:=3) ND rfl (by walk_at "o")) (au (rF (nZ (K:=K) rfl PySem.F.plainAttrs_list PySem.F.slot_list_append PySem.F.type_list_append jc (pv 2) (aj (pf aD hr (aj (pv 0) (aj (aN bC (pb (A_ rfl) B.min J0 (aj (pv 1) (aj ak aa))) ak) aa))) aa))) (aB (bc (i:=1) ND rfl (by walk_at "o") (aN rK (pv 1) (cZ bT (pv 2) (pv 3) (fun _ _=>rfl))))))) (au (bc (i:=4) ND rfl (by walk_at "o") (pt (gn) B.tuple dJ (aj (eX (N':=["_law_k","_law_tape_here"]) (js:=[0]) rfl (dz (by rfl) B.range (aj ak aa)) tV.mk1 rfl (by decide) rfl (fun fp s' H'=>(Dk (aj (pf dB hr (aj (pv 1) aa)) (aj (pf dB hr (aj (pv 1) aa)) (aj (pf dB hr (aj (pv 1) aa)) aa)))))) aa))) (aB (aM (Dk (aj (pf dB hr (aj (pv 0) aa)) (aj (pf aD hr (aj (pv 0) (aj (aN bC (pv 1) ak) aa))) (aj (pt (gn) B.tuple dJ (aj (pv 2) aa)) (aj (pf aD hr (aj (pv 0) (aj ak aa))) (aj (pf aD hr (aj (pv 0) (aj ak aa))) (aj (pv 4) aa)))))))))))),?_⟩
 walk_at "rd";refine⟨fW _,fun p hp=>⟨_,_,rfl,?_⟩⟩;have pa:p≠a:=tp.ne hp;refine Mw (n:=5) (fun R hR=>hR) (by decide) (fun i σ H'=>∃(left:Int) (cs:List Int) (o3:Option V),σ=[some (.ref a),some (.int left),some (.ref p),o3,none]/\H' p=some (.lst (cs.map V.int))/\cs.length=i/\(∀c∈cs,0<=c)/\cs.sum+left=12/\(0<=left/\left<=12)/\Tp H' a (n+i)/\SX a H H')
  ⟨12,[],none,rfl,aA,rfl,fun c h=>by simp at h,rfl,⟨by decide,by decide⟩,tp.same (aK hp _),SX.of (aK hp _)⟩ ?_ ?_
 ·rintro i σ H1 hi ⟨left,cs,o3,rfl,h1,h2,h3,h4,h5,t1,s1⟩;walk_at "rd";refine⟨.inl ⟨rfl,_,fJ.of h1⟩,?_⟩;refine cJ.of t1 (by omega) (by split <;> omega) (by split <;> omega) fun v H2 l2 u2 t2 s2=>?_
  have h1':=s2.get pa h1;refine⟨p,_,_,rfl,rfl,h1',by rw[jh]; exact bA (by omega),?_⟩
  have e:(cs.map V.int++[V.int v])=(cs++[v]).map V.int:=by simp
  rw[e];refine Ix.lst aA (v:=.int v) ?_ ?_
  ·have:=bV (xs:=(cs++[v]).map V.int) (j:=i) (v:=.int v) (by subst h2; simp)
   rw[Int.zero_add]; exact this
  ·walk_at "rd";have lv:v<=left:=by split at u2 <;> omega
   refine⟨left-v,cs++[v],_,rfl,aA,by rw[jk,h2]; rfl,fun c hc=>?_,?_,by omega,?_,?_⟩
   ·rcases mJ.mp hc with z | z
    ·exact h3 c z
    ·rw[lK.mp z]; exact l2
   ·rw[List.sum_append]; simp; omega
   ·exact t2.dD pa
   ·exact(s1.trans s2).dD hp pa
 ·rintro σ H1 ⟨left,cs,o3,rfl,h1,h2,h3,h4,h5,t1,s1⟩;walk_at "rd";refine Eh (n:=3) (fun R hR=>hR) (by decide) fun acc hacc=>?_
  have ca:acc≠a:=t1.ne hacc;refine⟨fun i ys H'=>∃us:List (List Int),us.length=i/\(∀u∈us,Ii u)/\aq (hid acc (hid a H')) (us.map jx) ys/\ys.length=i/\H' acc=some (.lst ys)/\Tp H' a (n+5+12*i)/\SX a H1 H',?_,?_,?_⟩
  ·exact⟨[],rfl,fun u h=>by simp at h,aq.nil,rfl,aA,t1.dD ca,(SX.refl a H1).dD hacc ca⟩
  ·rintro i ys H2 hi ⟨us,l2,u2,a2,y2,c2,t2,s2⟩;show IK _ [some _,some (.ref a)] H2 _;walk_at "rd";refine qK.of t2 (by omega) fun v1 H3 l3 u3 t3 s3=>?_
   refine qK.of t3 (by omega) fun v2 H4 l4 u4 t4 s4=>?_
   refine qK.of t4 (by omega) fun v3 H5 l5 u5 t5 s5=>?_
   refine⟨(by show 3<=sizeLine; decide),fun t ht=>?_⟩
   have Om:=s3.trans (s4.trans s5);have ta:t≠a:=t5.ne ht;have c5:=Om.get ca c2;have tc:t≠acc:=fun z=>by subst z; rw[ht] at c5; cases c5
   refine⟨by rw[aL (Ne.symm tc)]; exact c5,bA (by omega),us++[[v1,v2,v3]],by rw[jk,l2]; rfl,fun u hu=>?_,?_,by rw[jk,y2]; rfl,aA,?_,?_⟩
   ·rcases mJ.mp hu with z | z
    ·exact u2 u z
    ·rw[lK.mp z]; exact⟨v1,v2,v3,rfl,⟨l3,u3⟩,⟨l4,u4⟩,⟨l5,u5⟩⟩
   ·rw[bM ca,mX,bM ta,bM tc,List.map_append];have fr:(hid acc (hid a H5)) t=none:=by rw[bx tc,bx ta]; exact ht
    refine aq.append ((a2.mono (aH.hid Om)).mono (aK fr _)) (aq.cons (At.tup aA ?_) aq.nil);exact aq.cons (At.int _) (aq.cons (At.int _) (aq.cons (At.int _) aq.nil))
   ·exact((t5.dD ta).dD ca).mono (by omega)
   ·exact(((s2.trans Om).trans (SX.of (aK ht _))).dD hacc ca)
  ·rintro ys H2 ⟨us,l2,u2,a2,y2,c2,t2,s2⟩;refine⟨acc,ys,rfl,c2,fun l hl=>?_⟩;have la:l≠a:=t2.ne hl
   have A1:At (hid a (upd H2 l (.tup ys))) (.tuple (us.map jx)) (.ref l):=by
    rw[bM la];have fr:hid a H2 l=none:=by rw[bx la]; exact hl
    exact At.tup aA ((a2.mono cW).mono (aK fr _))
   have p2:upd H2 l (.tup ys) p=some (.lst (cs.map V.int)):=by
    have:=s2.get pa h1;rw[aL (fun z=>by subst z; rw[hl] at this; cases this)]; exact this
   refine qK.of (t2.dD la) (by omega) fun v3 H3 l3 u3 t3 s3=>?_
   refine cJ.of t3 (by omega) (by omega) (by omega) fun v4 H4 l4 u4 t4 s4=>?_
   refine⟨p,_,rfl,s4.get pa (s3.get pa p2),fun m hm=>?_⟩;have ma:m≠a:=t4.ne hm
   have A2:At (hid a (upd H4 m (.tup (cs.map V.int)))) (.tuple (cs.map .int)) (.ref m):=by
    rw[bM ma];exact At.tup aA (kI cs)
   have Vp:At (hid a (upd H4 m (.tup (cs.map V.int)))) (.tuple (us.map jx)) (.ref l):=(A1.mono (s3.trans s4)).mono (SX.of (aK hm _));refine cJ.of (t4.dD ma) (by omega) (by decide) (by decide) fun v5 H5 l5 u5 t5 s5=>?_
   refine cJ.of t5 (by omega) (by decide) (by decide) fun v6 H6 l6 u6 t6 s6=>?_
   refine⟨(by show 6<=sizeLine; decide),fun z hz=>?_⟩
   have za:z≠a:=t6.ne hz;have fr:hid a H6 z=none:=by rw[bx za]; exact hz
   have QJ:=s5.trans s6;refine q z ⟨v3,v4,cs,v5,v6,us⟩ _ ⟨⟨l3,u3⟩,l4,h2,h3,by show v4+cs.sum<=12; omega,⟨l5,by show v5<=5; omega⟩,⟨l6,by show v6<=9; omega⟩,l2,u2⟩ ?_ ((t6.dD za).mono (by omega)) ?_
   ·rw[bM za];exact At.tup aA (aq.cons (At.int _) (aq.cons (At.int _) (aq.cons ((A2.mono QJ).mono (aK fr _)) (aq.cons (At.int _) (aq.cons (At.int _) (aq.cons ((Vp.mono QJ).mono (aK fr _)) aq.nil))))))
   ·refine SX.trans s1 (SX.trans s2 (SX.trans (SX.of (aK hl _)) (SX.trans s3 (SX.trans s4 (SX.trans (SX.of (aK hm _)) (SX.trans s5 (SX.trans s6 (SX.of (aK hz _)))))))))
structure Bg (r:gP):Prop where
 is:Ij r
 g:r.g∈(["over","under","each"]:List Str)
 z:r.g = "each" -> r.t=0
 t:r.g ≠ "each" -> -12<=r.t/\r.t<=12/\r.t≠0
def Ca:Sp:=fun vs H Q _=>∃(a:Addr) (n:Nat) (b:Bool),vs=[.ref a,.bl b]/\Tp H a n/\n<=800000000/\∀v r H',Bg r->At (hid a H') (jC r) v->Tp H' a (n+12)->SX a H H'->Q v H'
theorem Row.of {a:Addr} {n:Nat} {b:Bool} {H:Hp} {Q:VK} {E:XK} (t:Tp H a n) (hn:n<=800000000) (q:∀v r H',Bg r->At (hid a H') (jC r) v->Tp H' a (n+12)->SX a H H'->Q v H'):Ca ([.ref a,.bl b]++[]) H Q E:=⟨a,n,b,rfl,t,hn,q⟩
theorem uh:aW ["_law_tape_here","_law_small","_law_sign","_law_what","_law_span","_law_number","_law_step"] ["_law_tape_here","_law_small"] (aF rz):=(by walk_at "c")
theorem Dv (F:iV K "_law_row" "_law_row" rz f fd) (B:Bi mg) (aD:Ct P w K mg base k "_law_draw" ["_law_tape_here","_law_many"] fU) (dB:Ct P w K mg base k "_law_units" ["_law_tape_here"] jP):bI P w K mg base gw (k+1) f fd ["_law_tape_here","_law_small"] Ca:=by
 refine F.ok uh (by rintro vs H Q E ⟨a,n,b,rfl,_⟩; rfl) (fun cdv A outer s H vs Q E hr h=>?_)
 obtain⟨a,n,b,rfl,tp,hn,q⟩:=h;have ND:=uh.nd;refine⟨_,(au (bc (i:=2) ND rfl (by walk_at "o") (cZ bT (di (aj bO (aj bO (aj bO aa)))) (pf aD hr (aj (pv 0) (aj ak aa))) (fun _ _=>rfl))) (au (bc (i:=3) ND rfl (by walk_at "o") (cZ bT (di (aj bO (aj bO (aj bO (aj bO aa))))) (pf aD hr (aj (pv 0) (aj ak aa))) (fun _ _=>rfl))) (au (bc (i:=4) ND rfl (by walk_at "o") (cP (bW (pv 1)) (cZ bT (di (aj ak (aj ak (aj ak (aj (aN bC ak (pf aD hr (aj (pv 0) (aj ak aa)))) aa))))) (pf aD hr (aj (pv 0) (aj ak aa))) (fun _ _=>rfl)) (aN bC ak (pf aD hr (aj (pv 0) (aj ak aa)))))) (au (bc (i:=5) ND rfl (by walk_at "o") (cP (bW (pv 1)) (pf aD hr (aj (pv 0) (aj ak aa))) (pf dB hr (aj (pv 0) aa)))) (au (cO (bz fQ (pv 2) bO (aZ _)) (aB (aM (dh (aj (pv 3) (aj (pv 4) (aj (pv 2) (aj (pb (qC rfl) B.max Eo (aj ak (aj (pv 5) aa))) (aj ak aa)))))))) bw) (au (bc (i:=6) ND rfl (by walk_at "o") (aN bC ak (pf aD hr (aj (pv 0) (aj (cP (bW (pv 1)) ak ak) aa))))) (aB (aM (dh (aj (pv 3) (aj (pv 4) (aj (pv 2) (aj (pv 5) (aj (cP (bz Dr (aN bC (pf aD hr (aj (pv 0) (aj ak aa))) (aN iG (pt (je) B.int o9 (aj (cM fQ (pv 2) bO (aZ _)) aa)) ak)) ak (aZ _)) (pv 6) (aN rK ak (pv 6))) aa)))))))))))))),?_⟩
 walk_at "rd";refine⟨(by decide),fun p1 H1 f1 s1 e1=>?_⟩
 refine cJ.of (tp.same s1) (by omega) (by decide) (by decide) fun y1 H2 l2 u2 t2 s2=>?_
 have n1:p1≠a:=tp.ne f1;obtain⟨g,hg,eg⟩:=qi (ts:=["over","under","each"]) l2 u2;refine Ix.lst (s2.get n1 e1) eg ?_;refine⟨(by decide),fun p3 H3 f3 s3 e3=>?_⟩
 refine cJ.of (t2.same s3) (by omega) (by decide) (by decide) fun y4 H4 l4 u4 t4 s4=>?_
 have n3:p3≠a:=t2.ne f3;obtain⟨w,hw,ew⟩:=qi (ts:=["come","done","wait","wait"]) l4 u4
 have hw':w∈(["come","done","wait"]:List Str):=by
  simp only[jE,uy,or_false] at hw ⊢;rcases hw with z | z | z | z
  ·exact .inl z
  ·exact .inr (.inl z)
  ·exact .inr (.inr z)
  ·exact .inr (.inr z)
 refine Ix.lst (s4.get n3 e3) ew ?_;have QC:SX a H H4:=(SX.of s1).trans (s2.trans ((SX.of s3).trans s4))
 have fin:∀(sp:Nat) (nn tt:Int) (H8:Hp) (m:Nat),(1<=sp/\sp<=4)->Tp H8 a m->m<=n+12->SX a H H8->(0<=nn/\nn<=1000000000000)->(g = "each" -> 1<=nn)->(g = "each" -> tt=0)->(g ≠ "each" -> -12<=tt/\tt<=12/\tt≠0)->∀p H',H8 p=none->aH H8 H'->H' p=some (.tup [.str w,.int sp,.str g,.int nn,.int tt])->Q (.ref p) H':=fun sp nn tt H8 m hsp t8 hm s8 hnn hge hz ht p H' fp QF ep=>by
  have pa:p≠a:=t8.ne fp;refine q _ ⟨w,sp,g,nn,tt⟩ H' ⟨⟨hw',hsp,hnn,hge⟩,hg,hz,ht⟩ (At.tup (by rw[bx pa]; exact ep) ?_) ((t8.same QF).mono hm) (s8.trans (SX.of QF))
  exact aq.cons (At.str _) (aq.cons (At.int _) (aq.cons (At.str _) (aq.cons (At.int _) (aq.cons (At.int _) aq.nil))))
 cases b with
 | false=>
  walk_at "rd";refine cJ.of t4 (by omega) (by decide) (by decide) fun y5 H5 l5 u5 t5 s5=>?_
  walk_at "rd";refine qK.of t5 (by omega) fun num H6 l6 u6 t6 s6=>?_
  walk_at "rd";obtain⟨sp,hsp⟩:∃sp:Nat,1+y5=(sp:Int):=⟨(1+y5).toNat,by omega⟩
  rw[hsp];have sx:SX a H H6:=QC.trans (s5.trans s6);refine bu (fun c1=>?_) (fun c1=>?_)
  ·exact⟨(by decide),fin _ _ _ H6 _ (by omega) t6 (by omega) sx (by split <;> omega) (fun _=>by split <;> omega) (fun _=>rfl) (fun z=>absurd (jj c1) z)⟩
  ·have c1':=of_decide_eq_false c1;refine cJ.of t6 (by omega) (by decide) (by decide) fun y8 H8 l8 u8 t8 s8=>?_
   walk_at "rd";refine cJ.of t8 (by omega) (by decide) (by decide) fun y9 H9 l9 u9 t9 s9=>?_
   walk_at "rd";refine⟨.inr (by decide),?_⟩
   refine bu (fun c2=>?_) (fun c2=>?_)
   ·exact⟨(by decide),fin _ _ _ H9 _ (by omega) t9 (by omega) (sx.trans (s8.trans s9)) ⟨l6,u6⟩ (fun z=>absurd z c1') (fun z=>absurd z c1') (fun _=>by omega)⟩
   ·exact⟨(by decide),fin _ _ _ H9 _ (by omega) t9 (by omega) (sx.trans (s8.trans s9)) ⟨l6,u6⟩ (fun z=>absurd z c1') (fun z=>absurd z c1') (fun _=>by omega)⟩
 | true=>
  walk_at "rd";refine cJ.of t4 (by omega) (by decide) (by decide) fun y5 H5 l5 u5 t5 s5=>?_
  walk_at "rd";refine⟨(by decide),fun p6 H6 f6 s6 e6=>?_⟩
  refine cJ.of (t5.same s6) (by omega) (by decide) (by decide) fun y7 H7 l7 u7 t7 s7=>?_
  have n6:p6≠a:=t5.ne f6;obtain⟨x,hx,ex⟩:=qj (ts:=[1,1,1,1+y5]) l7 u7;refine Ix.lst (s7.get n6 e6) ex ?_
  have hx':1<=x/\x<=4:=by
   simp only[jE,uy,or_false] at hx;rcases hx with rfl | rfl | rfl | rfl <;> omega
  refine cJ.of t7 (by omega) (by decide) (by decide) fun num H8 l8 u8 t8 s8=>?_
  walk_at "rd";obtain⟨sp,rfl⟩:∃sp:Nat,x=(sp:Int):=⟨x.toNat,by omega⟩
  have sx:SX a H H8:=QC.trans (s5.trans ((SX.of s6).trans (s7.trans s8)));refine bu (fun c1=>?_) (fun c1=>?_)
  ·exact⟨(by decide),fin _ _ _ H8 _ (by omega) t8 (by omega) sx (by split <;> omega) (fun _=>by split <;> omega) (fun _=>rfl) (fun z=>absurd (jj c1) z)⟩
  ·have c1':=of_decide_eq_false c1;refine cJ.of t8 (by omega) (by decide) (by decide) fun y8 H9 l9 u9 t9 s9=>?_
   walk_at "rd";refine cJ.of t9 (by omega) (by decide) (by decide) fun y9 Il l10 Vu M_ zA=>?_
   walk_at "rd";refine⟨.inr (by decide),?_⟩
   refine bu (fun c2=>?_) (fun c2=>?_)
   ·exact⟨(by decide),fin _ _ _ Il _ (by omega) M_ (by omega) (sx.trans (s9.trans zA)) (by omega) (fun z=>absurd z c1') (fun z=>absurd z c1') (fun _=>by omega)⟩
   ·exact⟨(by decide),fin _ _ _ Il _ (by omega) M_ (by omega) (sx.trans (s9.trans zA)) (by omega) (fun z=>absurd z c1') (fun z=>absurd z c1') (fun _=>by omega)⟩
theorem Fp (r:gP):rQ (jC r)=true:=rfl
theorem Ck (rs:List gP):rQ (fO rs)=true:=by
 show dH (rs.map jC)=true;exact ou.mpr fun d hd=>by obtain⟨r,_,rfl⟩:=zH.mp hd; rfl
structure Hg (rs:List gP):Prop where
 lo:1<=rs.length
 hi:rs.length<=4
 g:∀r∈rs,Bg r
def ye:Sp:=fun vs H Q _=>∃(a:Addr) (n:Nat),vs=[.ref a,.bl false]/\Tp H a n/\n<=700000000/\∀p iZ H',iZ.length<=3->(∀rs∈iZ,Hg rs)->At (hid a H') (Cj iZ) (.ref p)->Tp H' a (n+300)->SX a H H'->Q (.ref p) H'
theorem m_:aW ["_law_tape_here","_law_small","_law_rules_here","_law_k"] ["_law_tape_here","_law_small"] (aF lr):=(by walk_at "c")
theorem v7 (F:iV K "_law_rules" "_law_rules" lr f fd) (B:Bi mg) (aD:Ct P w K mg base k "_law_draw" ["_law_tape_here","_law_many"] fU) (G6:Ct P w K mg base k "_law_row" ["_law_tape_here","_law_small"] Ca):bI P w K mg base gw (k+1) f fd ["_law_tape_here","_law_small"] ye:=by
 refine F.ok m_ (by rintro vs H Q E ⟨a,n,rfl,_⟩; rfl) (fun cdv A outer s H vs Q E hr h=>?_)
 obtain⟨a,n,rfl,tp,hn,q⟩:=h;have ND:=m_.nd;refine⟨_,(au (bc (i:=2) ND rfl (by walk_at "o") (di aa)) (au (lM PassesOwn.never rfl (dz (by rfl) B.range (aj (pf aD hr (aj (pv 0) (aj (cP (bW (pv 1)) ak ak) aa))) aa)) (aV (i:=3) ND rfl (by walk_at "o")) (aB (rF (nZ (K:=K) rfl PySem.F.plainAttrs_list PySem.F.slot_list_append PySem.F.type_list_append jc (pv 2) (aj (pt (gn) B.tuple dJ (aj (eX (N':=["_law_j","_law_tape_here","_law_small"]) (js:=[0,1]) rfl (dz (by rfl) B.range (aj (aN bC ak (pf aD hr (aj (pv 0) (aj (cP (bW (pv 1)) ak ak) aa)))) aa)) tV.mk2 rfl (by decide) rfl (fun fp s' H'=>(pf G6 hr (aj (pv 1) (aj (pv 2) aa))))) aa)) aa))))) (aB (aM (pt (gn) B.tuple dJ (aj (pv 2) aa)))))),?_⟩
 walk_at "rd";refine⟨fW _,fun p H1 f1 s1 e1=>?_⟩;have pa:p≠a:=tp.ne f1;rw[jN];walk_at "rd";refine cJ.of (tp.same s1) (by omega) (by decide) (by decide) fun m H2 l2 u2 t2 s2=>?_
 refine FK.of (n:=m.toNat) (by omega) (by omega) (fun i σ H'=>∃(iZ:List (List gP)) (ys:List V) (o3:Option V),σ=[some (.ref a),some (.bl false),some (.ref p),o3]/\iZ.length=i/\ys.length=i/\(∀rs∈iZ,Hg rs)/\H' p=some (.lst ys)/\aq (hid p (hid a H')) (iZ.map fO) ys/\Tp H' a (n+1+60*i)/\SX a H H')
  ⟨[],[],_,rfl,rfl,rfl,fun d h=>by simp at h,s2.get pa e1,aq.nil,t2,(SX.of s1).trans s2⟩ ?_ ?_
 ·rintro i σ H3 hi ⟨iZ,ys,o3,rfl,ld,ly,od,h3,a3,t3,s3⟩;walk_at "rd";refine⟨.inl ⟨rfl,_,fJ.of h3⟩,?_⟩;rw[pY];walk_at "rd";refine cJ.of t3 (by omega) (by decide) (by decide) fun r H4 l4 u4 t4 s4=>?_
  have h4:=s4.get pa h3;walk_at "rd";refine CK.of (n:=(1+r).toNat) (by omega) (by omega) fun acc hacc=>?_
  have ca:acc≠a:=t4.ne hacc;have cp:acc≠p:=fun z=>by subst z; rw[hacc] at h4; cases h4
  refine⟨fun j zs H'=>∃es:List gP,es.length=j/\zs.length=j/\(∀d∈es,Bg d)/\aq (hid acc (hid a H')) (es.map jC) zs/\H' acc=some (.lst zs)/\Tp H' a (n+1+60*i+1+12*j)/\SX a H4 H',?_,?_,?_⟩
  ·exact⟨[],rfl,rfl,fun d h=>by simp at h,aq.nil,aA,t4.dD ca,(SX.refl a H4).dD hacc ca⟩
  ·rintro j zs H5 hj ⟨es,le,lz,oe,a5,c5,t5,s5⟩;show lZ _ _ _ _ [some _,some (.ref a),some (.bl false)] H5 _;walk_at "rd";refine Row.of t5 (by omega) fun v d H6 rk a6 t6 s6=>?_
   have c6:=s6.get ca c5;have U8:hid a H6 acc=some (.lst zs):=by rw[bx ca]; exact c6
   refine⟨c6,(by rw[lz]; exact bA (by omega)),es++[d],by rw[jk,le]; rfl,by rw[jk,lz]; rfl,fun x hx=>?_,?_,aA,?_,?_⟩
   ·rcases mJ.mp hx with z | z
    ·exact oe x z
    ·rw[lK.mp z]; exact rk
   ·rw[bM ca,mX,List.map_append];exact(a5.mono (aH.hid s6)).append (aq.cons (At.An U8 _ v (Fp d) a6) aq.nil)
   ·exact(t6.dD ca).mono (by omega)
   ·exact(s5.trans s6).dD hacc ca
  ·rintro zs H6 ⟨es,le,lz,oe,a6,c6,t6,s6⟩;have h6:=s6.get pa h4;refine⟨acc,zs,rfl,c6,fun l hl=>?_⟩;have la:l≠a:=t6.ne hl;have lp:l≠p:=fun z=>by subst z; rw[hl] at h6; cases h6
   refine⟨p,ys,_,rfl,rfl,by rw[aL (Ne.symm lp)]; exact h6,by rw[ly]; exact bA (by omega),?_⟩
   have A1:At (hid a (upd H6 l (.tup zs))) (fO es) (.ref l):=by
    rw[bM la];have fr:hid a H6 l=none:=by rw[bx la]; exact hl
    exact At.tup aA ((a6.mono cW).mono (aK fr _))
   have h7:hid a (upd H6 l (.tup zs)) p=some (.lst ys):=by rw[bx pa,aL (Ne.symm lp)]; exact h6
   have QH:SX a H3 (upd H6 l (.tup zs)):=(s4.trans s6).trans (SX.of (aK hl _));refine⟨iZ++[es],ys++[.ref l],_,rfl,by rw[jk,ld]; rfl,by rw[jk,ly]; rfl,fun x hx=>?_,aA,?_,?_,?_⟩
   ·rcases mJ.mp hx with z | z
    ·exact od x z
    ·rw[lK.mp z]; exact⟨by omega,by omega,oe⟩
   ·rw[bM pa,mX,List.map_append];exact(a3.mono (aH.hid QH)).append (aq.cons (At.An h7 _ _ (Ck es) A1) aq.nil)
   ·exact((t6.dD la).dD pa).mono (by omega)
   ·exact(s3.trans QH).dD f1 pa
 ·rintro σ H3 ⟨iZ,ys,o3,rfl,ld,ly,od,h3,a3,t3,s3⟩;walk_at "rd";refine⟨p,ys,rfl,h3,fun l hl=>?_⟩;have la:l≠a:=t3.ne hl;refine q l iZ _ (by omega) od ?_ ((t3.dD la).mono (by omega)) (s3.trans (SX.of (aK hl _)))
  rw[bM la];have fr:hid a H3 l=none:=by rw[bx la]; exact hl
  exact At.tup aA ((a3.mono cW).mono (aK fr _))
structure Qi (x:Ik):Prop where
 p:1<=x.p/\x.p<=1000000
 m:Ey x.m
 lo:0<=x.lo/\x.lo<=x.hi
 hi:x.hi<=12
 a:x.a<=4
 e:1<=x.e/\x.e<=6
 u:0<=x.u/\x.u<=9
 d:0<=x.d/\x.d<=9
 n:x.iZ.length<=3
 r:∀rs∈x.iZ,Hg rs
def Cd:Sp:=fun vs H Q _=>∃(a:Addr) (n:Nat),vs=[.ref a]/\Tp H a n/\n<=100000000/\∀p x H',Qi x->At (hid a H') (gZ x) (.ref p)->Tp H' a (n+400)->SX a H H'->Q (.ref p) H'
theorem p_:aW ["_law_tape_here","_law_pace","_law_most","_law_hands","_law_rests","_law_late","_law_every"] ["_law_tape_here"] (aF nJ):=(by walk_at "c")
theorem zZ (F:iV K "_law_post" "_law_post" nJ f fd) (B:Bi mg) (aD:Ct P w K mg base k "_law_draw" ["_law_tape_here","_law_many"] fU) (dB:Ct P w K mg base k "_law_units" ["_law_tape_here"] jP) (Bd:Ct P w K mg base k "_law_rules" ["_law_tape_here","_law_small"] ye):bI P w K mg base gw (k+1) f fd ["_law_tape_here"] Cd:=by
 refine F.ok p_ (by rintro vs H Q E ⟨a,n,rfl,_⟩; rfl) (fun cdv A outer s H vs Q E hr h=>?_)
 obtain⟨a,n,rfl,tp,hn,q⟩:=h;have ND:=p_.nd;refine⟨_,(au (bc (i:=1) ND rfl (by walk_at "o") (cZ bT (di (aj ak (aj (aN bC ak (pf aD hr (aj (pv 0) (aj ak aa)))) (aj (aN bC ak (pf aD hr (aj (pv 0) (aj (aN iD ak ak) aa)))) aa)))) (pf aD hr (aj (pv 0) (aj ak aa))) (fun _ _=>rfl))) (au (bc (i:=2) ND rfl (by walk_at "o") (pf aD hr (aj (pv 0) (aj ak aa)))) (au (bc (i:=3) ND rfl (by walk_at "o") (dh (aj (pf aD hr (aj (pv 0) (aj (aN bC (pv 2) ak) aa))) (aj (pv 2) aa)))) (au (bc (i:=4) ND rfl (by walk_at "o") (dh (aj (pf aD hr (aj (pv 0) (aj ak aa))) (aj (pf aD hr (aj (pv 0) (aj ak aa))) aa)))) (au (rE (i:=5) (j:=6) rfl ND rfl rfl (by decide) rfl rfl (aj (pf aD hr (aj (pv 0) (aj ak aa))) (aj (aN bC ak (pf aD hr (aj (pv 0) (aj ak aa)))) aa)) (by rfl)) (aB (aM (dh (aj (pv 1) (aj (pf dB hr (aj (pv 0) aa)) (aj (pv 3) (aj (pv 5) (aj (pv 6) (aj (pv 4) (aj (pf Bd hr (aj (pv 0) (aj cA aa))) aa))))))))))))))),?_⟩
 have e6:(10:Int) ^ Int.toNat 6=1000000:=by decide
 walk_at "rd";refine cJ.of tp (by omega) (by decide) (by decide) fun y1 H1 l1 u1 t1 s1=>?_
 walk_at "rd";refine⟨⟨by decide,by decide,by decide⟩,cJ.of t1 (by omega) (by decide) (by decide) fun y2 H2 l2 u2 t2 s2=>⟨_,_,rfl,rfl,(by decide),fun p3 H3 f3 s3 e3=>?_⟩⟩
 rw[e6] at u2;have n3:=t2.ne f3;refine cJ.of (t2.same s3) (by omega) (by decide) (by decide) fun y4 H4 l4 u4 t4 s4=>?_
 obtain⟨pc,Pb,Rc⟩:=qj (ts:=[1,1+y1,1+y2]) l4 u4
 have Pa:1<=pc/\pc<=1000000:=by
  simp only[jE,uy,or_false] at Pb;rcases Pb with rfl | rfl | rfl <;> omega
 refine Ix.lst (s4.get n3 e3) Rc ?_;clear Pb Rc l4 u4;refine cJ.of t4 (by omega) (by decide) (by decide) fun y5 H5 l5 u5 t5 s5=>⟨_,_,rfl,rfl,?_⟩
 refine cJ.of t5 (by omega) (by omega) (by omega) fun y6 H6 l6 u6 t6 s6=>⟨(by decide),fun p7 H7 f7 s7 e7=>?_⟩
 have n7:=t6.ne f7;refine cJ.of (t6.same s7) (by omega) (by decide) (by decide) fun y8 H8 l8 u8 t8 s8=>?_
 refine cJ.of t8 (by omega) (by decide) (by decide) fun y9 H9 l9 u9 t9 s9=>⟨(by decide),fun Vx Il Pq zA e10=>?_⟩
 have n10:=t9.ne Pq;refine cJ.of (t9.same zA) (by omega) (by decide) (by decide) fun y11 M5 VG Vt Oh Li=>?_
 refine cJ.of Oh (by omega) (by decide) (by decide) fun y12 Rm VF Vs Rz s12=>⟨_,_,rfl,rfl,_,_,rfl,?_⟩
 refine qK.of Rz (by omega) fun y13 Ka R0 Ru Ry HH=>?_
 refine⟨a,_,rfl,Ry,by omega,fun Vw iZ Vn Ph O_ a14 QB QK=>⟨(by decide),fun RL qM Nx HF HY=>?_⟩⟩
 have n15:=QB.ne Nx;obtain⟨la,hla⟩:∃la:Nat,y11=(la:Int):=⟨y11.toNat,by omega⟩
 rw[hla] at HY;have x10:SX a Il qM:=Li.trans (s12.trans (HH.trans (QK.trans (SX.of HF))));have x7:SX a H7 qM:=s8.trans (s9.trans ((SX.of zA).trans x10));refine q RL ⟨pc,y13,y6,y5,la,1+y12,y8,y9,iZ⟩ qM ⟨Pa,⟨R0,Ru⟩,by show 0<=y6/\y6<=y5; omega,by show y5<=12; omega,by show la<=4; omega,by show 1<=1+y12/\1+y12<=6; omega,by show 0<=y8/\y8<=9; omega,by show 0<=y9/\y9<=9; omega,Ph,O_⟩ ?_ ((QB.same HF).mono (by omega)) ?_
 ·exact At.tup (by rw[bx n15]; exact HY) (aq.cons (At.int _) (aq.cons (At.int _) (aq.cons (At.tup (by rw[bx n7]; exact x7.get n7 e7) (kI [y6,y5])) (aq.cons (At.int _) (aq.cons (At.int _) (aq.cons (At.tup (by rw[bx n10]; exact x10.get n10 e10) (kI [y8,y9])) (aq.cons (a14.mono (SX.of HF)) aq.nil)))))))
 ·exact s1.trans (s2.trans ((SX.of s3).trans (s4.trans (s5.trans (s6.trans ((SX.of s7).trans x7))))))
end
def whole (d:PyData):Bool:=isInt d && !isBool d
def bZ (d:PyData) (i:Int):Bool:=match d with
 | .int n=>decide (i<=n)
 | _=>false
def aQ (d:PyData) (i j:Int):Bool:=match d with
 | .int n=>decide (i<=n)&&decide (n<=j)
 | _=>false
def cz (d:PyData) (n:Int):Bool:=match d with
 | .tuple ds=>decide ((ds.length:Int)=n)
 | _=>false
section
variable {P:Program} {w:World} {K:PySem.W.Frag} {mg:Str->Option Value} {base:Heap} {f:Addr} {fd:FuncData} {k:Nat}
theorem mj:aW ["thing"] ["thing"] (aF jA):=(by walk_at "c")
theorem uG (F:iV K "is_whole" "is_whole" jA f fd) (B:Bi mg):bI P w K mg base gw (k+1) f fd ["thing"] (dM whole):=by
 refine F.ok mj (dM.len rfl) (fun cdv A outer s H vs Q E hr h=>?_);obtain⟨v,d,rfl,hv,q⟩:=h;have ND:=mj.nd;refine⟨_,(aB (aM (bQ (pb G3 B.isinstance aO (aj (pv 0) (aj (pty (by rfl) B.int o9) aa))) (eQ (Jq (pb DW B.isinstance aO (aj (pv 0) (aj (pty (by rfl) B.bool G9) aa)))))))),?_⟩
 walk_at "rd";refine Ks.of hv ?_;walk_at "rd";cases e:isInt d with
 | true=>
  rw[bj rfl];refine Ks.of hv ?_;walk_at "rd";have:=q H (aH.refl H);unfold whole at this;rw[e] at this;exact this
 | false=>
  rw[bB (by decide)]
  have:=q H (aH.refl H);unfold whole at this;rw[e] at this;exact this
theorem nF:aW ["thing","least"] ["thing","least"] (aF lC):=(by walk_at "c")
theorem pU {d:PyData} (h:whole d=true):∃i,d=.int i:=by
 cases d <;> first | exact⟨_,rfl⟩ | (exfalso; revert h; simp[whole,isInt,isBool])
theorem wj (F:iV K "is_from" "is_from" lC f fd) (dZ:Ct P w K mg base k "is_whole" ["thing"] (dM whole)):bI P w K mg base gw (k+1) f fd ["thing","least"] (eU bZ):=by
 refine F.ok nF (eU.len rfl) (fun cdv A outer s H vs Q E hr h=>?_);obtain⟨v,d,i,rfl,hv,q⟩:=h;have ND:=nF.nd;refine⟨_,(aB (aM (bQ (pf dZ hr (aj (pv 0) aa)) (eQ (cM HS (pv 0) (pv 1) (aZ _)))))),?_⟩;walk_at "rd";refine B1.of hv fun H1 s1=>?_;walk_at "rd";have q1:=q H1 s1;cases e:whole d with
 | true=>
  rw[bj rfl];obtain⟨n,rfl⟩:=pU e;unfold At at hv;subst hv;walk_at "rd";exact q1
 | false=>
  rw[bB (by decide)]
  have:bZ d i=false:=by cases d <;> first | rfl | (exfalso; revert e; simp[whole,isInt,isBool])
  rw[this] at q1;exact q1
theorem jo:aW ["thing","least","most"] ["thing","least","most"] (aF gB):=(by walk_at "c")
theorem pC (F:iV K "is_between" "is_between" gB f fd) (dZ:Ct P w K mg base k "is_whole" ["thing"] (dM whole)):bI P w K mg base gw (k+1) f fd ["thing","least","most"] (jn aQ):=by
 refine F.ok jo (jn.len rfl) (fun cdv A outer s H vs Q E hr h=>?_);obtain⟨v,d,i,j,rfl,hv,q⟩:=h;have ND:=jo.nd;refine⟨_,(aB (aM (bQ (pf dZ hr (aj (pv 0) aa)) (eQ (Dp uE uE (pv 1) (pv 0) (pv 2)))))),?_⟩;walk_at "rd";refine B1.of hv fun H1 s1=>?_;walk_at "rd";have q1:=q H1 s1;cases e:whole d with
 | true=>
  rw[bj rfl];obtain⟨n,rfl⟩:=pU e;unfold At at hv;subst hv;walk_at "rd";have q1:Q (.bl (decide (i<=n)&&decide (n<=j))) H1:=q1;cases e1:decide (i<=n) with
  | true=>rw[e1] at q1; rw[bj rfl]; exact q1
  | false=>rw[e1] at q1; rw[bB (by decide)]; exact q1
 | false=>
  rw[bB (by decide)]
  have:aQ d i j=false:=by cases d <;> first | rfl | (exfalso; revert e; simp[whole,isInt,isBool])
  rw[this] at q1;exact q1
theorem ir:aW ["thing","many"] ["thing","many"] (aF fV):=(by walk_at "c")
theorem bH {H:Hp} {d:PyData} {v:V} (h:At H d v) (e:isTup d=true):∃a xs ds,d=.tuple ds/\v=.ref a/\H a=some (.tup xs)/\aq H ds xs:=by
 cases d <;> first | (exfalso; revert e; simp[isTup]; done) | skip
 unfold At at h;obtain⟨a,xs,e1,e2,e3⟩:=h;exact⟨a,xs,_,rfl,e1,e2,e3⟩
theorem n8 (F:iV K "is_tuple_of" "is_tuple_of" fV f fd) (B:Bi mg):bI P w K mg base gw (k+1) f fd ["thing","many"] (eU cz):=by
 refine F.ok ir (eU.len rfl) (fun cdv A outer s H vs Q E hr h=>?_);obtain⟨v,d,i,rfl,hv,q⟩:=h;have ND:=ir.nd;refine⟨_,(aB (aM (bQ (pb mV B.isinstance aO (aj (pv 0) (aj (pty (by rfl) B.tuple dJ) aa))) (eQ (cM fQ (pb (dY (K:=K) rfl) B.len jK (aj (pv 0) aa)) (pv 1) (aZ _)))))),?_⟩
 walk_at "rd";refine Ks.of hv ?_;walk_at "rd";have q1:=q H (aH.refl H);cases e:isTup d with
 | true=>
  rw[bj rfl];obtain⟨a,xs,ds,rfl,rfl,h1,h2⟩:=bH hv e;refine⟨a,xs,rfl,.inr (fH.of h1),rfl,?_⟩
  have:V.bl (decide (V.int (xs.length:Int)=V.int i))=V.bl (cz (.tuple ds) i):=by
   unfold cz; rw[h2.length]; simp
  rw[this];exact q1
 | false=>
  rw[bB (by decide)]
  have:cz d i=false:=by cases d <;> first | rfl | (exfalso; revert e; simp[isTup])
  rw[this] at q1;exact q1
def aY (d:PyData) (n:Int):Bool:=match d with
 | .tuple ds=>decide ((ds.length:Int)=n)&&(ds.map (bZ · 0)).all id
 | _=>false
theorem jq:aW ["thing","many"] ["thing","many"] (aF gC):=(by walk_at "c")
def vK (f:PyData->Int->Bool):Sp:=fun vs H Q _=>∃v d i,vs=[v,.int i]/\At H d v/\i<=1000/\∀H',aH H H'->Q (.bl (f d i)) H'
theorem Cn.of {g:PyData->Int->Bool} {v:V} {d:PyData} {i:Int} {H:Hp} {Q:VK} {E:XK} (h:At H d v) (hi:i<=1000) (q:∀H',aH H H'->Q (.bl (g d i)) H'):vK g ([v,.int i]++[]) H Q E:=⟨v,d,i,rfl,h,hi,q⟩
theorem vK.len {g:PyData->Int->Bool} {ps:List Str} (h:ps.length=2):∀vs H Q E,vK g vs H Q E->vs.length=ps.length:=by rintro vs H Q E ⟨v,d,i,rfl,_⟩; exact h.symm
theorem pD (F:iV K "are_counts" "are_counts" gC f fd) (B:Bi mg) (aJ:Ct P w K mg base k "is_tuple_of" ["thing","many"] (eU cz)) (cX:Ct P w K mg base k "is_from" ["thing","least"] (eU bZ)) :
  bI P w K mg base gw (k+1) f fd ["thing","many"] (vK aY):=by
 refine F.ok jq (vK.len rfl) (fun cdv A outer s H vs Q E hr h=>?_);obtain⟨v,d,i,rfl,hv,hi,q⟩:=h;have ND:=jq.nd;refine⟨_,(au (cO (dR (bW (pf aJ hr (aj (pv 0) (aj (pv 1) aa))))) (aB (aM cA)) bw) (aB (aM (pb (e_ rfl) B.all lX (aj (eX (N':=["number"]) (js:=[]) rfl (j4 (K:=K) rfl (pv 0)) tV.Km rfl (by decide) rfl (fun fp s' H'=>(pf cX hr (aj (pv 0) (aj ak aa))))) aa))))),?_⟩
 walk_at "rd";refine E_.of hv fun H1 s1=>?_;walk_at "rd";cases e:cz d i with
 | false=>
  rw[bj (by decide)]
  have:aY d i=false:=by
   cases d <;> first | rfl | skip
   rename_i ds;have e':decide ((ds.length:Int)=i)=false:=e;show(decide ((ds.length:Int)=i)&&_)=false;rw[e']; rfl
  have q1:=q H1 s1;rw[this] at q1;exact q1
 | true=>
  rw[bB (by decide)]
  have et:isTup d=true:=by cases d <;> first | rfl | (exfalso; revert e; simp[cz])
  obtain⟨a,xs,ds,rfl,rfl,h1,h2⟩:=bH hv et;have e':decide ((ds.length:Int)=i)=true:=e;refine oU (f:=(bZ · 0)) (fun R hR=>?_) (s1 _ _ h1) (h2.mono s1) (lF (bA (by have:=jj e'; omega))) (fun x d' H' s' hx R hR=>?_) (fun acc H' s' hl=>?_)
  ·walk_at "rd"; exact hR
  ·walk_at "rd";exact E_.of hx hR
  ·refine⟨acc,_,rfl,hl,?_⟩;have q1:=q H' (s1.trans s');have q1:Q (.bl (decide ((ds.length:Int)=i)&&(ds.map (bZ · 0)).all id)) H':=q1;rw[e'] at q1;exact q1
def intOf:PyData->Int
 | .int i=>i
 | _=>0
def partsOf:PyData->List PyData
 | .tuple ds=>ds
 | _=>[]
def oK (r c:PyData):Bool:=bZ r 0&&aY c 5&&decide (intOf r+((partsOf c).map intOf).sum<=12)
theorem uT {d:PyData} {i:Int} (h:bZ d i=true):∃n,d=.int n/\i<=n:=by
 cases d <;> first | exact⟨_,rfl,jj h⟩ | (exfalso; revert h; simp[bZ])
theorem ints_of {H:Hp}:∀{ds:List PyData} {xs:List V},aq H ds xs->(ds.map (bZ · 0)).all id=true->xs=(ds.map intOf).map V.int
 | [],xs,h,_=>by unfold aq at h; rw[h]; rfl
 | d::ds,xs,h,e=>by
  unfold aq at h;obtain⟨x,r,rfl,h1,h2⟩:=h;have e':bZ d 0=true/\(ds.map (bZ · 0)).all id=true:=by simpa using e
  obtain⟨n,rfl,_⟩:=uT e'.1;unfold At at h1;rw[h1,ints_of h2 e'.2];rfl
theorem sJ {d:PyData} {n:Int} (h:aY d n=true):∃ds,d=.tuple ds/\(ds.length:Int)=n/\(ds.map (bZ · 0)).all id=true:=by
 cases d <;> first | (exfalso; revert h; simp[aY]; done) | skip
 rename_i ds;have h':(decide ((ds.length:Int)=n)&&(ds.map (bZ · 0)).all id)=true:=h;rw[lG] at h';exact⟨ds,rfl,jj h'.1,h'.2⟩
theorem jU:aW ["ready","called"] ["ready","called"] (aF iz):=(by walk_at "c")
theorem rP (F:iV K "are_hands" "are_hands" iz f fd) (B:Bi mg) (O:Co K mg) (cX:Ct P w K mg base k "is_from" ["thing","least"] (eU bZ)) (cY:Ct P w K mg base k "are_counts" ["thing","many"] (vK aY)) :
  bI P w K mg base gw (k+1) f fd ["ready","called"] (zu oK):=by
 refine F.ok jU (zu.len rfl) (fun cdv A outer s H vs Q E hr h=>?_);obtain⟨v,d,v',d',rfl,hv,hv',q⟩:=h;have ND:=jU.nd;refine⟨_,(au (cO (PW.pt (nR (dR (bW (pf cX hr (aj (pv 0) (aj ak aa))))) (jG (dR (bW (pf cY hr (aj (pv 1) (aj (cH O.pQ) aa)))))))) (aB (aM cA)) bw) (aB (aM (cM uE (aN bC (pv 0) (pb (Az rfl) B.sum JZ (aj (pv 1) aa))) (cH O.gQ) (aZ _))))),?_⟩;walk_at "rd";refine E_.of hv fun H1 s1=>?_;walk_at "rd";cases e:bZ d 0 with
 | false=>
  rw[bj (by decide)]
  have q1:=q H1 s1;unfold oK at q1;rw[e] at q1;exact q1
 | true=>
  rw[bB (by decide)]
  refine Cn.of (hv'.mono s1) (by decide) fun H2 s2=>?_
  walk_at "rd";have q2:=q H2 (s1.trans s2);unfold oK at q2;rw[e] at q2;cases e2:aY d' 5 with
  | false=>
   rw[bj (by decide)]
   rw[e2] at q2;exact q2
  | true=>
   rw[bB (by decide)]
   rw[e2] at q2;obtain⟨ds,rfl,hn,ha⟩:=sJ e2;obtain⟨n,rfl,_⟩:=uT e;obtain⟨a,xs,ds',e3,rfl,h1,h2⟩:=bH hv' rfl;cases e3;unfold At at hv;subst hv;walk_at "rd";refine⟨a,ds.map intOf,rfl,.inr (s2 _ _ (s1 _ _ (by rw[h1,ints_of h2 ha]))),?_⟩
   exact q2
def bK (d:PyData):Bool:=match d with
 | .tuple [a,b,c,e,r,s]=>bZ a 0&&oK b c&&aQ e 0 5&&aQ r 0 9&&cz s 3&&((partsOf s).map (aY · 3)).all id
 | _=>false
theorem O4 {α:Type} {l:List α} (h:l.length=6):∃a b c d e f,l=[a,b,c,d,e,f]:=by
 match l,h with
 | [a,b,c,d,e,f],_=>exact⟨a,b,c,d,e,f,rfl⟩
theorem mq:aW ["thing","wait","ready","called","since","rest","seen"] ["thing"] (aF jB):=(by walk_at "c")
theorem uH (F:iV K "is_stand" "is_stand" jB f fd) (B:Bi mg) (O:Co K mg) (aJ:Ct P w K mg base k "is_tuple_of" ["thing","many"] (eU cz)) (cX:Ct P w K mg base k "is_from" ["thing","least"] (eU bZ))
  (aG:Ct P w K mg base k "is_between" ["thing","least","most"] (jn aQ)) (iU:Ct P w K mg base k "are_hands" ["ready","called"] (zu oK)) (cY:Ct P w K mg base k "are_counts" ["thing","many"] (vK aY)) :
  bI P w K mg base gw (k+1) f fd ["thing"] (dM bK):=by
 refine F.ok mq (dM.len rfl) (fun cdv A outer s H vs Q E hr h=>?_);obtain⟨v,d,rfl,hv,q⟩:=h;have ND:=mq.nd;refine⟨_,(au (cO (dR (bW (pf aJ hr (aj (pv 0) (aj ak aa))))) (aB (aM cA)) bw) (au (jH (pv 0) (jb (K:=K) (n:=6) rfl rfl (aX (aV (i:=1) ND rfl (by walk_at "o")) (aX (aV (i:=2) ND rfl (by walk_at "o")) (aX (aV (i:=3) ND rfl (by walk_at "o")) (aX (aV (i:=4) ND rfl (by walk_at "o")) (aX (aV (i:=5) ND rfl (by walk_at "o")) (aX (aV (i:=6) ND rfl (by walk_at "o")) i_)))))))) (aB (aM (bQ (pf cX hr (aj (pv 1) (aj ak aa))) (bQ (pf iU hr (aj (pv 2) (aj (pv 3) aa))) (bQ (pf aG hr (aj (pv 4) (aj ak (aj (cH O.xQ) aa)))) (bQ (pf aG hr (aj (pv 5) (aj ak (aj (cH O.qL) aa)))) (bQ (pf aJ hr (aj (pv 6) (aj (cH O.tO) aa))) (eQ (pb (e_ rfl) B.all lX (aj (eX (N':=["triple"]) (js:=[]) rfl (j4 (K:=K) rfl (pv 6)) tV.Km rfl (by decide) rfl (fun fp s' H'=>(pf cY hr (aj (pv 0) (aj (pb (dY (K:=K) rfl) B.len jK (aj (Dj (K:=K) rfl (M6.gt O.Ih)) aa)) aa))))) aa)))))))))))),?_⟩
 walk_at "rd";refine E_.of hv fun H1 s1=>?_;walk_at "rd";cases e:cz d 6 with
 | false=>
  rw[bj (by decide)]
  have q1:=q H1 s1
  have:bK d=false:=by
   unfold bK;split
   ·exfalso; revert e; simp[cz]
   ·rfl
  rw[this] at q1;exact q1
 | true=>
  rw[bB (by decide)]
  have et:isTup d=true:=by cases d <;> first | rfl | (exfalso; revert e; simp[cz])
  obtain⟨a,xs,ds,rfl,rfl,h1,h2⟩:=bH hv et;have e':(ds.length:Int)=6:=jj e;obtain⟨d1,d2,d3,d4,d5,d6,rfl⟩:=O4 (show ds.length=6 by omega)
  obtain⟨x1,_,rfl,a1,h2⟩:=aq.bR h2;obtain⟨x2,_,rfl,a2,h2⟩:=aq.bR h2;obtain⟨x3,_,rfl,a3,h2⟩:=aq.bR h2;obtain⟨x4,_,rfl,a4,h2⟩:=aq.bR h2;obtain⟨x5,_,rfl,a5,h2⟩:=aq.bR h2;obtain⟨x6,_,rfl,a6,h2⟩:=aq.bR h2;cases aq.xW h2;refine⟨a,_,rfl,fH.of (s1 _ _ h1),rfl,?_⟩;walk_at "rd";have no:∀{H':Hp},aH H H'->bK (.tuple [d1,d2,d3,d4,d5,d6])=false->Q (.bl false) H':=fun {H'} s' e=>by rw[<- e]; exact q H' s'
  refine E_.of (a1.mono s1) fun H2 s2=>?_;walk_at "rd";have s2:=s1.trans s2;refine bu (fun b1=>?_) (fun b1=>no s2 (by simp[bK,b1]))
  refine B2.of (a2.mono s2) (a3.mono s2) fun H3 s3=>?_;walk_at "rd";have s3:=s2.trans s3;refine bu (fun b2=>?_) (fun b2=>no s3 (by simp[bK,b2]))
  refine yS.of (a4.mono s3) fun H4 s4=>?_;walk_at "rd";have s4:=s3.trans s4;refine bu (fun b3=>?_) (fun b3=>no s4 (by simp[bK,b3]))
  refine yS.of (a5.mono s4) fun H5 s5=>?_;walk_at "rd";have s5:=s4.trans s5;refine bu (fun b4=>?_) (fun b4=>no s5 (by simp[bK,b4]))
  refine E_.of (a6.mono s5) fun H6 s6=>?_;walk_at "rd";have s6:=s5.trans s6;refine bu (fun b5=>?_) (fun b5=>no s6 (by simp[bK,b5]))
  have S8:isTup d6=true:=by cases d6 <;> first | rfl | (exfalso; revert b5; simp[cz])
  obtain⟨a',xs',ds',rfl,rfl,h1',h2'⟩:=bH a6 S8;have Wb:(ds'.length:Int)=3:=jj b5;refine oU (f:=(aY · 3)) (fun R hR=>?_) (s6 _ _ h1') (h2'.mono s6) (lF (bA (by omega))) (fun x d' H' s' hx R hR=>?_) (fun acc H' s' hl=>?_)
  ·walk_at "rd"; exact hR
  ·walk_at "rd";intro aw hw;refine⟨aw,_,rfl,.inr (hw _),?_⟩;exact Cn.of hx (by decide) hR
  ·refine⟨acc,_,rfl,hl,?_⟩;have q1:=q H' (s6.trans s')
   have:bK (.tuple [d1,d2,d3,d4,d5,.tuple ds'])=(ds'.map (aY · 3)).all id:=by
    show(_&&_&&_&&_&&_&&_)=_;rw[b1,b2,b3,b4,b5]; rfl
   rw[this] at q1;exact q1
theorem O6 {α:Type} {l:List α} (h:l.length=2):∃a b,l=[a,b]:=by
 match l,h with
 | [a,b],_=>exact⟨a,b,rfl⟩
theorem vh {d:PyData} {i j:Int} (h:aQ d i j=true):∃n,d=.int n/\i<=n/\n<=j:=by
 cases d <;> first | (exfalso; revert h; simp[aQ]; done) | skip
 rename_i n;have h':(decide (i<=n)&&decide (n<=j))=true:=h;rw[lG] at h';exact⟨n,rfl,jj h'.1,jj h'.2⟩
theorem fM {d:PyData} {n:Int} (h:cz d n=true):∃ds,d=.tuple ds/\(ds.length:Int)=n:=by
 cases d <;> first | (exfalso; revert h; simp[cz]; done) | skip
 exact⟨_,rfl,jj h⟩
def du (d:PyData):Bool:=match d with
 | .tuple [l,m]=>aQ m 0 12&&aQ l 0 (intOf m)
 | _=>false
theorem dF:aW ["thing","least","most"] ["thing"] (aF cG):=(by walk_at "c")
theorem gH (F:iV K "are_bounds_of_hands" "are_bounds_of_hands" cG f fd) (O:Co K mg) (aJ:Ct P w K mg base k "is_tuple_of" ["thing","many"] (eU cz)) (aG:Ct P w K mg base k "is_between" ["thing","least","most"] (jn aQ)) :
  bI P w K mg base gw (k+1) f fd ["thing"] (dM du):=by
 refine F.ok dF (dM.len rfl) (fun cdv A outer s H vs Q E hr h=>?_);obtain⟨v,d,rfl,hv,q⟩:=h;have ND:=dF.nd;refine⟨_,(au (cO (dR (bW (pf aJ hr (aj (pv 0) (aj ak aa))))) (aB (aM cA)) bw) (au (jH (pv 0) (jb (K:=K) (n:=2) rfl rfl (aX (aV (i:=1) ND rfl (by walk_at "o")) (aX (aV (i:=2) ND rfl (by walk_at "o")) i_)))) (aB (aM (bQ (pf aG hr (aj (pv 2) (aj ak (aj (cH O.gQ) aa)))) (eQ (pf aG hr (aj (pv 1) (aj ak (aj (pv 2) aa)))))))))),?_⟩
 have no:∀{H':Hp},aH H H'->du d=false->Q (.bl false) H':=fun {H'} s' e=>by rw[<- e]; exact q H' s'
 walk_at "rd";refine E_.of hv fun H1 s1=>?_;walk_at "rd";refine fX (fun c1=>no s1 ?_) (fun c1=>?_)
 ·unfold du;split
  ·exfalso; revert c1; simp[cz]
  ·rfl
 obtain⟨ds,rfl,hn⟩:=fM c1;obtain⟨d1,d2,rfl⟩:=O6 (show ds.length=2 by omega)
 obtain⟨a,xs,ds',e,rfl,h1,h2⟩:=bH hv rfl;cases e;obtain⟨x1,_,rfl,a1,h2⟩:=aq.bR h2;obtain⟨x2,_,rfl,a2,h2⟩:=aq.bR h2;cases aq.xW h2;refine⟨a,_,rfl,fH.of (s1 _ _ h1),rfl,?_⟩;walk_at "rd";refine yS.of (a2.mono s1) fun H2 s2=>?_;have s2:=s1.trans s2;walk_at "rd";refine bu (fun c2=>?_) (fun c2=>no s2 (by simp[du,c2]))
 obtain⟨n,rfl,_⟩:=vh c2;unfold At at a2;subst a2;refine yS.of (a1.mono s2) fun H3 s3=>?_;have q1:=q H3 (s2.trans s3)
 have e:du (.tuple [d1,.int n])=aQ d1 0 n:=by
  show(_&&_)=_;rw[c2]; rfl
 rw[e] at q1;exact q1
def pairD (d:PyData) (m:Int):Bool:=match d with
 | .tuple ds=>decide ((ds.length:Int)=2)&&(ds.map (aQ · 0 m)).all id
 | _=>false
theorem jT:aW ["thing"] ["thing"] (aF iy):=(by walk_at "c")
theorem rO (F:iV K "are_rests" "are_rests" iy f fd) (B:Bi mg) (O:Co K mg) (aJ:Ct P w K mg base k "is_tuple_of" ["thing","many"] (eU cz)) (aG:Ct P w K mg base k "is_between" ["thing","least","most"] (jn aQ)) :
  bI P w K mg base gw (k+1) f fd ["thing"] (dM (pairD · 9)):=by
 refine F.ok jT (dM.len rfl) (fun cdv A outer s H vs Q E hr h=>?_);obtain⟨v,d,rfl,hv,q⟩:=h;have ND:=jT.nd;refine⟨_,(au (cO (dR (bW (pf aJ hr (aj (pv 0) (aj ak aa))))) (aB (aM cA)) bw) (aB (aM (pb (e_ rfl) B.all lX (aj (eX (N':=["beats"]) (js:=[]) rfl (j4 (K:=K) rfl (pv 0)) tV.Km rfl (by decide) rfl (fun fp s' H'=>(pf aG hr (aj (pv 0) (aj ak (aj (cH O.qL) aa)))))) aa))))),?_⟩
 have no:∀{H':Hp},aH H H'->pairD d 9=false->Q (.bl false) H':=fun {H'} s' e=>by rw[<- e]; exact q H' s'
 walk_at "rd";refine E_.of hv fun H1 s1=>?_;walk_at "rd";refine fX (fun c1=>no s1 ?_) (fun c1=>?_)
 ·cases d <;> first | rfl | skip
  show(decide _&&_)=false;rw[show decide _=false from c1]; rfl
 obtain⟨ds,rfl,hn⟩:=fM c1;obtain⟨a,xs,ds',e,rfl,h1,h2⟩:=bH hv rfl;cases e;refine oU (f:=(aQ · 0 9)) (fun R hR=>?_) (s1 _ _ h1) (h2.mono s1) (lF (bA (by omega))) (fun x d' H' s' hx R hR=>?_) (fun acc H' s' hl=>?_)
 ·walk_at "rd"; exact hR
 ·walk_at "rd";exact yS.of hx hR
 ·refine⟨acc,_,rfl,hl,?_⟩;have q1:=q H' (s1.trans s');have q1:Q (.bl (decide ((ds.length:Int)=2)&&(ds.map (aQ · 0 9)).all id)) H':=q1;rw[eV hn] at q1;exact q1
def Nt:PyData->Bool
 | .int n=>decide (n=0)
 | _=>false
def HX (d:PyData):Bool:=(["come","done","wait"]:List Str).any (Eu d ·)
def bN (c e g:PyData):Bool:=if Eu c "each" = true then aQ e 1 1000000000000&&aQ g 0 0 else(["over","under"]:List Str).any (Eu c ·)&&aQ e 0 1000000000000&&aQ g (-12) 12 && !Nt g
def gD (d:PyData):Bool:=match d with
 | .tuple [a,b,c,e,g]=>HX a&&aQ b 1 4&&bN c e g
 | _=>false
theorem qd:aW ["thing","what","span","sign","number","step"] ["thing"] (aF nO):=(by walk_at "c")
theorem z7 (F:iV K "is_row" "is_row" nO f fd) (O:Co K mg) (aJ:Ct P w K mg base k "is_tuple_of" ["thing","many"] (eU cz)) (aG:Ct P w K mg base k "is_between" ["thing","least","most"] (jn aQ)) :
  bI P w K mg base gw (k+1) f fd ["thing"] (dM gD):=by
 refine F.ok qd (dM.len rfl) (fun cdv A outer s H vs Q E hr h=>?_);obtain⟨v,d,rfl,hv,q⟩:=h;have ND:=qd.nd;refine⟨_,(au (cO (dR (bW (pf aJ hr (aj (pv 0) (aj ak aa))))) (aB (aM cA)) bw) (au (jH (pv 0) (jb (K:=K) (n:=5) rfl rfl (aX (aV (i:=1) ND rfl (by walk_at "o")) (aX (aV (i:=2) ND rfl (by walk_at "o")) (aX (aV (i:=3) ND rfl (by walk_at "o")) (aX (aV (i:=4) ND rfl (by walk_at "o")) (aX (aV (i:=5) ND rfl (by walk_at "o")) i_))))))) (au (cO (PW.pt (nR (bz (j6 (K:=K) rfl hr.units) (pv 1) (Dj (K:=K) rfl (M6.gt O.Ih)) (by with_unfolding_all rfl)) (jG (dR (bW (pf aG hr (aj (pv 2) (aj ak (aj (cH O.Bh) aa))))))))) (aB (aM cA)) bw) (au (cO (bz (zW hr.Iw) (pv 3) (vW O.EACH) (aZ _)) (aB (aM (bQ (pf aG hr (aj (pv 4) (aj ak (aj (cH O.jL) aa)))) (eQ (pf aG hr (aj (pv 5) (aj ak (aj ak aa)))))))) bw) (au (cO (PW.pt (nR (bz (j6 (K:=K) rfl hr.units) (pv 3) (dh (aj (vW O.OVER) (aj (vW O.UNDER) aa))) (by with_unfolding_all rfl)) (jG (dR (bW (pf aG hr (aj (pv 4) (aj ak (aj (cH O.jL) aa))))))))) (aB (aM cA)) bw) (aB (aM (bQ (pf aG hr (aj (pv 5) (aj (HQ Bx (cH O.gQ)) (aj (cH O.gQ) aa)))) (eQ (cM HR (pv 5) ak (aZ _))))))))))),?_⟩
 have no:∀{H':Hp},aH H H'->gD d=false->Q (.bl false) H':=fun {H'} s' e=>by rw[<- e]; exact q H' s'
 walk_at "rd";refine E_.of hv fun H1 s1=>?_;walk_at "rd";refine fX (fun c1=>no s1 ?_) (fun c1=>?_)
 ·unfold gD;split
  ·exfalso; revert c1; simp[cz]
  ·rfl
 obtain⟨ds,rfl,hn⟩:=fM c1;obtain⟨d1,d2,d3,d4,d5,rfl⟩:=O5 (show ds.length=5 by omega)
 obtain⟨a,xs,ds',e,rfl,h1,h2⟩:=bH hv rfl;cases e;obtain⟨x1,_,rfl,a1,h2⟩:=aq.bR h2;obtain⟨x2,_,rfl,a2,h2⟩:=aq.bR h2;obtain⟨x3,_,rfl,a3,h2⟩:=aq.bR h2;obtain⟨x4,_,rfl,a4,h2⟩:=aq.bR h2;obtain⟨x5,_,rfl,a5,h2⟩:=aq.bR h2;cases aq.xW h2;refine⟨a,_,rfl,fH.of (s1 _ _ h1),rfl,?_⟩;walk_at "rd";intro aw hw;refine⟨d1,["come","done","wait"],aw,rfl,hw _,a1.mono s1,?_⟩;refine fX (fun c2=>no s1 ?_) (fun c2=>?_)
 ·have:HX d1=false:=c2;simp[gD,this]
 have c2':HX d1=true:=c2;refine yS.of (a2.mono s1) fun H2 s2=>?_;have s2:=s1.trans s2;walk_at "rd";refine fX (fun c3=>no s2 (by simp[gD,c3])) (fun c3=>?_)
 have hr0:∀{b:Bool} {H':Hp},aH H H'->bN d3 d4 d5=b->Q (.bl b) H':=fun {b H'} s' e=>by
  have:gD (.tuple [d1,d2,d3,d4,d5])=b:=by
   show(_&&_&&_)=_;rw[c2',c3,e]; rfl
  rw[<- this]; exact q H' s'
 refine⟨d3,"each",rfl,a3.mono s2,?_⟩;refine bu (fun c4=>?_) (fun c4=>?_)
 ·refine yS.of (a4.mono s2) fun H3 s3=>?_;have s3:=s2.trans s3;walk_at "rd";refine bu (fun c5=>?_) (fun c5=>hr0 s3 (by simp[bN,c4,c5]))
  refine yS.of (a5.mono s3) fun H4 s4=>?_;exact hr0 (s3.trans s4) (by simp[bN,c4,c5])
 ·refine⟨(by decide),fun p H3 f3 s3 e3=>?_⟩
  have s3:=s2.trans s3;refine⟨d3,["over","under"],p,rfl,fH.of e3,a3.mono s3,?_⟩;refine fX (fun c5=>hr0 s3 (by unfold bN; rw[c4,c5]; rfl)) (fun c5=>?_)
  refine yS.of (a4.mono s3) fun H4 s4=>?_;have s4:=s3.trans s4;walk_at "rd";refine fX (fun c6=>hr0 s4 (by unfold bN; rw[c4,c5,c6]; rfl)) (fun c6=>?_)
  refine yS.of (a5.mono s4) fun H5 s5=>?_;have s5:=s4.trans s5;walk_at "rd";refine bu (fun c7=>?_) (fun c7=>hr0 s5 (by unfold bN; rw[c4,c5,c6,c7]; rfl))
  obtain⟨n,rfl,_⟩:=vh c7;unfold At at a5;subst a5;walk_at "rd";refine hr0 s5 ?_;unfold bN; rw[c4,c5,c6,c7]; rfl
def fP (d:PyData):Bool:=match d with
 | .tuple ds=>decide ((1:Int)<=ds.length)&&decide ((ds.length:Int)<=4)&&(ds.map gD).all id
 | _=>false
def iB (d:PyData):Bool:=match d with
 | .tuple ds=>decide ((ds.length:Int)<=3)&&(ds.map fP).all id
 | _=>false
theorem nu:aW ["thing"] ["thing"] (aF lA):=(by walk_at "c")
theorem v_ (F:iV K "is_rule" "is_rule" lA f fd) (B:Bi mg) (O:Co K mg) (oX:Ct P w K mg base k "is_row" ["thing"] (dM gD)) :
  bI P w K mg base gw (k+1) f fd ["thing"] (dM fP):=by
 refine F.ok nu (dM.len rfl) (fun cdv A outer s H vs Q E hr h=>?_);obtain⟨v,d,rfl,hv,q⟩:=h;have ND:=nu.nd;refine⟨_,(au (cO (PW.pt (nR (dR (bW (pb mV B.isinstance aO (aj (pv 0) (aj (pty (by rfl) B.tuple dJ) aa))))) (jG (dR (De uE uE ak (pb (dY (K:=K) rfl) B.len jK (aj (pv 0) aa)) (cH O.Bj)))))) (aB (aM cA)) bw) (aB (aM (pb (e_ rfl) B.all lX (aj (eX (N':=["row"]) (js:=[]) rfl (j4 (K:=K) rfl (pv 0)) tV.Km rfl (by decide) rfl (fun fp s' H'=>(pf oX hr (aj (pv 0) aa)))) aa))))),?_⟩
 have no:∀{H':Hp},aH H H'->fP d=false->Q (.bl false) H':=fun {H'} s' e=>by rw[<- e]; exact q H' s'
 walk_at "rd";refine Ks.of hv ?_;walk_at "rd";refine fX (fun c1=>no (aH.refl H) ?_) (fun c1=>?_)
 ·cases d <;> first | rfl | (exfalso; revert c1; simp[isTup])
 obtain⟨a,xs,ds,rfl,rfl,h1,h2⟩:=bH hv c1;refine⟨a,xs,rfl,.inr (fH.of h1),?_⟩;rw[h2.length];walk_at "rd";by_cases c2:(1:Int)<=ds.length
 ·rw[eV c2];walk_at "rd";by_cases c3:(ds.length:Int)<=4
  ·rw[eV c3];walk_at "rd";refine oU (f:=gD) (fun R hR=>?_) h1 h2 (lF (bA (by omega))) (fun x d' H' s' hx R hR=>?_) (fun acc H' s' hl=>?_)
   ·walk_at "rd"; exact hR
   ·walk_at "rd";exact B1.of hx hR
   ·refine⟨acc,_,rfl,hl,?_⟩;have q1:=q H' s';have q1:Q (.bl (decide ((1:Int)<=ds.length)&&decide ((ds.length:Int)<=4)&&(ds.map gD).all id)) H':=q1;rw[eV c2,eV c3] at q1;exact q1
  ·rw[ji c3];walk_at "rd";exact no (aH.refl H) (by show(_&&decide _&&_)=false; rw[ji c3]; simp)
 ·rw[ji c2];walk_at "rd";exact no (aH.refl H) (by show(decide _&&_&&_)=false; rw[ji c2]; rfl)
theorem jR:aW ["thing"] ["thing"] (aF iw):=(by walk_at "c")
theorem rN (F:iV K "are_rules" "are_rules" iw f fd) (B:Bi mg) (O:Co K mg) (lW:Ct P w K mg base k "is_rule" ["thing"] (dM fP)) :
  bI P w K mg base gw (k+1) f fd ["thing"] (dM iB):=by
 refine F.ok jR (dM.len rfl) (fun cdv A outer s H vs Q E hr h=>?_);obtain⟨v,d,rfl,hv,q⟩:=h;have ND:=jR.nd;refine⟨_,(au (cO (PW.pt (nR (dR (bW (pb mV B.isinstance aO (aj (pv 0) (aj (pty (by rfl) B.tuple dJ) aa))))) (jG (bz yt (pb (dY (K:=K) rfl) B.len jK (aj (pv 0) aa)) (cH O.xR) (aZ _))))) (aB (aM cA)) bw) (aB (aM (pb (e_ rfl) B.all lX (aj (eX (N':=["rule"]) (js:=[]) rfl (j4 (K:=K) rfl (pv 0)) tV.Km rfl (by decide) rfl (fun fp s' H'=>(pf lW hr (aj (pv 0) aa)))) aa))))),?_⟩
 have no:∀{H':Hp},aH H H'->iB d=false->Q (.bl false) H':=fun {H'} s' e=>by rw[<- e]; exact q H' s'
 walk_at "rd";refine Ks.of hv ?_;walk_at "rd";refine fX (fun c1=>no (aH.refl H) ?_) (fun c1=>?_)
 ·cases d <;> first | rfl | (exfalso; revert c1; simp[isTup])
 obtain⟨a,xs,ds,rfl,rfl,h1,h2⟩:=bH hv c1;refine⟨a,xs,rfl,.inr (fH.of h1),?_⟩;rw[h2.length];walk_at "rd";refine bu (fun c2=>no (aH.refl H) ?_) (fun c2=>?_)
 ·have:=jj c2;show(decide _&&_)=false;rw[ji (by omega)]; rfl
 ·have:=of_decide_eq_false c2;refine oU (f:=fP) (fun R hR=>?_) h1 h2 (lF (bA (by omega))) (fun x d' H' s' hx R hR=>?_) (fun acc H' s' hl=>?_)
  ·walk_at "rd"; exact hR
  ·walk_at "rd";exact B1.of hx hR
  ·refine⟨acc,_,rfl,hl,?_⟩;have q1:=q H' s';have q1:Q (.bl (decide ((ds.length:Int)<=3)&&(ds.map fP).all id)) H':=q1;rw[eV (by omega)] at q1
   exact q1
def cL (d:PyData):Bool:=match d with
 | .tuple [p,r,h,l,e,t,u]=>aQ p 1 1000000&&aQ r 0 1000000000000&&du h&&aQ l 0 4&&aQ e 1 6&&pairD t 9&&iB u
 | _=>false
theorem nD:aW ["thing","pace","room","hands","late","every","rests","rules"] ["thing"] (aF lB):=(by walk_at "c")
theorem wg (F:iV K "is_post" "is_post" lB f fd) (O:Co K mg) (aJ:Ct P w K mg base k "is_tuple_of" ["thing","many"] (eU cz)) (aG:Ct P w K mg base k "is_between" ["thing","least","most"] (jn aQ))
  (cI:Ct P w K mg base k "are_bounds_of_hands" ["thing"] (dM du)) (iT:Ct P w K mg base k "are_rests" ["thing"] (dM (pairD · 9))) (iR:Ct P w K mg base k "are_rules" ["thing"] (dM iB)) :
  bI P w K mg base gw (k+1) f fd ["thing"] (dM cL):=by
 refine F.ok nD (dM.len rfl) (fun cdv A outer s H vs Q E hr h=>?_);obtain⟨v,d,rfl,hv,q⟩:=h;have ND:=nD.nd;refine⟨_,(au (cO (dR (bW (pf aJ hr (aj (pv 0) (aj ak aa))))) (aB (aM cA)) bw) (au (jH (pv 0) (jb (K:=K) (n:=7) rfl rfl (aX (aV (i:=1) ND rfl (by walk_at "o")) (aX (aV (i:=2) ND rfl (by walk_at "o")) (aX (aV (i:=3) ND rfl (by walk_at "o")) (aX (aV (i:=4) ND rfl (by walk_at "o")) (aX (aV (i:=5) ND rfl (by walk_at "o")) (aX (aV (i:=6) ND rfl (by walk_at "o")) (aX (aV (i:=7) ND rfl (by walk_at "o")) i_))))))))) (aB (aM (bQ (pf aG hr (aj (pv 1) (aj ak (aj (cH O.Bk) aa)))) (bQ (pf aG hr (aj (pv 2) (aj ak (aj (cH O.jL) aa)))) (bQ (pf cI hr (aj (pv 3) aa)) (bQ (pf aG hr (aj (pv 4) (aj ak (aj (cH O.Bl) aa)))) (bQ (pf aG hr (aj (pv 5) (aj ak (aj (cH O.xT) aa)))) (bQ (pf iT hr (aj (pv 6) aa)) (eQ (pf iR hr (aj (pv 7) aa))))))))))))),?_⟩
 walk_at "rd";refine E_.of hv fun H1 s1=>?_;walk_at "rd";have no:∀{H':Hp},aH H H'->cL d=false->Q (.bl false) H':=fun {H'} s' e=>by rw[<- e]; exact q H' s'
 refine fX (fun c1=>no s1 ?_) (fun c1=>?_)
 ·unfold cL;split
  ·exfalso; revert c1; simp[cz]
  ·rfl
 obtain⟨ds,rfl,hn⟩:=fM c1;obtain⟨d1,d2,d3,d4,d5,d6,d7,rfl⟩:=O3 (show ds.length=7 by omega)
 obtain⟨a,xs,ds',e,rfl,h1,h2⟩:=bH hv rfl;cases e;obtain⟨x1,_,rfl,a1,h2⟩:=aq.bR h2;obtain⟨x2,_,rfl,a2,h2⟩:=aq.bR h2;obtain⟨x3,_,rfl,a3,h2⟩:=aq.bR h2;obtain⟨x4,_,rfl,a4,h2⟩:=aq.bR h2;obtain⟨x5,_,rfl,a5,h2⟩:=aq.bR h2;obtain⟨x6,_,rfl,a6,h2⟩:=aq.bR h2;obtain⟨x7,_,rfl,a7,h2⟩:=aq.bR h2;cases aq.xW h2;refine⟨a,_,rfl,fH.of (s1 _ _ h1),rfl,?_⟩;walk_at "rd";refine yS.of (a1.mono s1) fun H2 s2=>?_;walk_at "rd";have s2:=s1.trans s2;refine bu (fun b1=>?_) (fun b1=>no s2 (by simp[cL,b1]))
 refine yS.of (a2.mono s2) fun H3 s3=>?_;walk_at "rd";have s3:=s2.trans s3;refine bu (fun b2=>?_) (fun b2=>no s3 (by simp[cL,b2]))
 refine B1.of (a3.mono s3) fun H4 s4=>?_;walk_at "rd";have s4:=s3.trans s4;refine bu (fun b3=>?_) (fun b3=>no s4 (by simp[cL,b3]))
 refine yS.of (a4.mono s4) fun H5 s5=>?_;walk_at "rd";have s5:=s4.trans s5;refine bu (fun b4=>?_) (fun b4=>no s5 (by simp[cL,b4]))
 refine yS.of (a5.mono s5) fun H6 s6=>?_;walk_at "rd";have s6:=s5.trans s6;refine bu (fun b5=>?_) (fun b5=>no s6 (by simp[cL,b5]))
 refine B1.of (a6.mono s6) fun H7 s7=>?_;walk_at "rd";have s7:=s6.trans s7;refine bu (fun b6=>?_) (fun b6=>no s7 (by simp[cL,b6]))
 refine B1.of (a7.mono s7) fun H8 s8=>?_;have q1:=q H8 (s7.trans s8)
 have e:cL (.tuple [d1,d2,d3,d4,d5,d6,d7])=iB d7:=by
  show(_&&_&&_&&_&&_&&_&&_)=_;rw[b1,b2,b3,b4,b5,b6]; rfl
 rw[e] at q1;exact q1
theorem Eg (ns:List Int) (h:ns.length<=63):jJ (ns.map V.int) (some 4) (some 63)=(ns.drop 4).map V.int:=by
 have e:jJ (ns.map V.int) (some ((4:Nat):Int)) (some ((63:Nat):Int))=(ns.drop 4).map V.int:=by
  unfold jJ;rw[HT.mU,HT.mU,jh,List.map_drop];by_cases q:4<=ns.length
  ·rw[Nat.min_eq_left q,FQ h,Ji (by rw[zM,jh]; omega)]
  ·rw[FQ (by omega),Jh (by rw[jh]; omega),Jh (by rw[jh]; omega),List.take_nil]
 exact e
theorem ints_get {l:List Int} {i:Nat} {x:V} (h:(l.map V.int)[i]?=some x):i<l.length/\x=.int (l.getD i 0):=by
 rw[gU] at h;cases e:l[i]? with
 | none=>rw[e] at h; simp at h
 | some r=>
  rw[e] at h; simp at h;obtain⟨hi,_⟩:=lL.mp e;exact⟨hi,by rw[ym,e,<- h]; rfl⟩
theorem mZ {ls:List Int} {i:Nat} {j:Int} (e:j=(i:Int)) (h:i<ls.length):Bf (ls.map V.int) j=some (.int (ls.getD i 0)):=by
 rw[e];exact bV (by rw[gU,ym,pB h]; rfl)
def Ce (K:PySem.W.Frag):Sp:=fun vs H Q _=>∃(p:Addr) (ns:List Int),vs=[.ref p,.int 4]/\Ez K H p (ns.map V.int)/\ns.length<=63/\∀(r:Addr) (cs:List Int) H',aH H H'->H' r=some (.lst (cs.map V.int))->cs.length<=4->Q (.ref r) H'
theorem l_:aW ["_law_script","_law_many","_law_cells","_law_k","_law_cell"] ["_law_script","_law_many"] (aF jz):=(by walk_at "c")
theorem uF (F:iV K "_law_folded" "_law_folded" jz f fd) (B:Bi mg):bI P w K mg base gw (k+1) f fd ["_law_script","_law_many"] (Ce K):=by
 refine F.ok l_ (by rintro vs H Q E ⟨p,ns,rfl,_⟩; rfl) (fun cdv A outer s H vs Q E hr h=>?_)
 obtain⟨p,ns,rfl,hS,hn,q⟩:=h;have ND:=l_.nd;refine⟨_,(au (bc (i:=2) ND rfl (by walk_at "o") (pt (Ba) B.list G7 (aj (gk yj (pv 0) jY (gG (pv 1))) aa))) (au (lM PassesOwn.never rfl (yq (K:=K) rfl B.enumerate (aj (gk yj (pv 0) (gG (pv 1)) (gG ak)) aa)) (jb (K:=K) (n:=2) rfl rfl (aX (aV (i:=3) ND rfl (by walk_at "o")) (aX (aV (i:=4) ND rfl (by walk_at "o")) i_))) (aB (jH (aN bC (cZ bT (pv 2) (aN fu (pv 3) (pv 1)) (fun _ _=>rfl)) (aN iG (pv 4) (aN bC (pv 3) ak))) (vX (pv 2) (aN fu (pv 3) (pv 1)) set_list)))) (aB (aM (pv 2))))),?_⟩
 walk_at "rd";refine⟨p,_,rfl,hS.sq,fun p1 f1=>?_⟩;rw[xg (by decide),<- List.map_take]
 have s1:=aK f1 (HO.lst ((ns.take (Int.toNat 4)).map V.int));have e1:upd H p1 (HO.lst ((ns.take (Int.toNat 4)).map V.int)) p1=some (.lst ((ns.take (Int.toNat 4)).map V.int)):=aA;generalize upd H p1 (HO.lst ((ns.take (Int.toNat 4)).map V.int))=H1 at s1 e1 ⊢;refine⟨p1,_,rfl,e1,fun pc fc=>?_⟩;have s2:=aK fc (HO.lst ((ns.take (Int.toNat 4)).map V.int));have e2:upd H1 pc (HO.lst ((ns.take (Int.toNat 4)).map V.int)) pc=some (.lst ((ns.take (Int.toNat 4)).map V.int)):=aA;generalize upd H1 pc (HO.lst ((ns.take (Int.toNat 4)).map V.int))=H2 at s2 e2 ⊢;have QL:=s1.trans s2;have hS2:=hS.same QL
 have zc:H pc=none:=by
  cases e:H pc with
  | none=>rfl
  | some o=>rw[s1 _ _ e] at fc; cases fc
 rw[zp];walk_at "rd";refine⟨p,_,rfl,hS2.sq,fun p3 f3=>?_⟩;rw[Eg ns hn];have s3:=aK f3 (HO.lst ((ns.drop 4).map V.int));have e3:upd H2 p3 (HO.lst ((ns.drop 4).map V.int)) p3=some (.lst ((ns.drop 4).map V.int)):=aA;generalize upd H2 p3 (HO.lst ((ns.drop 4).map V.int))=H3 at s3 e3 ⊢;have n3:p3≠pc:=fun z=>by rw[z,e2] at f3; cases f3
 refine EK.of e3 (fun i σ H'=>∃(cs:List Int) (o3 o4:Option V),σ=[some (.ref p),some (.int 4),some (.ref pc),o3,o4]/\H' pc=some (.lst (cs.map V.int))/\cs.length=(ns.take (Int.toNat 4)).length/\H' p3=some (.lst ((ns.drop 4).map V.int))/\aH H H') ⟨_,_,_,rfl,s3 _ _ e2,rfl,e3,QL.trans s3⟩ (fun i σ H' _ ⟨_,_,_,_,_,_,z,_⟩=>z) ?_ ?_
 ·rintro i x σ H4 p4 hx ⟨cs,o3,o4,rfl,e4,l4,g4,s4⟩ f4;obtain⟨hi,rfl⟩:=ints_get hx
  have R9:cs.length=4:=by
   rw[l4,vO];rw[zM] at hi;exact Nat.min_eq_left (by show 4<=ns.length; omega)
  have Sg:i<63:=by rw[zM] at hi; omega
  refine⟨p4,_,rfl,fH.of aA,rfl,?_⟩;have s5:=aK f4 (HO.tup [V.int (i:Nat),V.int ((ns.drop 4).getD i 0)]);generalize upd H4 p4 (HO.tup [V.int (i:Nat),V.int ((ns.drop 4).getD i 0)])=H5 at s5 ⊢;walk_at "rd";refine⟨by decide,?_⟩
  have em:((i:Nat):Int) % 4=((i % 4:Nat):Int):=by omega
  have lt:i % 4<cs.length:=by rw[R9]; exact Nat.mod_lt _ (by decide)
  refine Ix.lst (s5 _ _ e4) (mZ em lt) ?_;walk_at "rd";refine⟨.inr ⟨by omega,by omega⟩,by decide,?_⟩
  refine⟨pc,_,_,i % 4,rfl,rfl,s5 _ _ e4,by rw[em,jh]; exact GX lt,?_⟩
  rw[<- List.map_set];exact⟨_,_,_,rfl,aA,by rw[List.length_set]; exact l4,by rw[aL n3]; exact s5 _ _ g4,aH.dD (s4.trans s5) zc⟩
 ·rintro σ H4 ⟨cs,o3,o4,rfl,e4,l4,g4,s4⟩;walk_at "rd";exact q pc cs H4 s4 e4 (by rw[l4,vO]; exact Nat.min_le_left _ _)
theorem Cm {r:gP} (h:Bg r):gD (jC r)=true/\fL 100000000000000 1 3000 (jC r):=by
 obtain⟨w,s,g,n,t⟩:=r;have hw:=h.is.w;have hs:=h.is.s;have hn:=h.is.n;have he:=h.is.e;have hg:=h.g;have hz:=h.z;have ht:=h.t;dsimp only at hw hs hn he hg hz ht;simp only[jE,uy,or_false] at hw hg;constructor
 ·show(HX (.str w)&&aQ (.int s) 1 4&&bN (.str g) (.int n) (.int t))=true;have e1:HX (.str w)=true:=by rcases hw with rfl | rfl | rfl <;> decide
  have e2:aQ (.int s) 1 4=true:=by
   show(decide ((1:Int)<=s)&&decide ((s:Int)<=4))=true;rw[eV (by omega),eV (by omega)]; rfl
  rw[e1,e2]
  have bt:∀(i a b:Int),a<=i->i<=b->aQ (.int i) a b=true:=fun i a b h1 h2=>by
   show(decide (a<=i)&&decide (i<=b))=true;rw[eV h1,eV h2]; rfl
  have nz:t≠0->(!Nt (.int t))=true:=fun z=>by
   show(!decide (t=0))=true;rw[ji z]; rfl
  rcases hg with rfl | rfl | rfl
  ·obtain⟨t1,t2,t3⟩:=ht (by decide)
   show(true&&true&&(true&&aQ (.int n) 0 1000000000000&&aQ (.int t) (-12) 12 && !Nt (.int t)))=true;rw[bt _ _ _ hn.1 hn.2,bt _ _ _ t1 t2,nz t3]; rfl
  ·obtain⟨t1,t2,t3⟩:=ht (by decide)
   show(true&&true&&(true&&aQ (.int n) 0 1000000000000&&aQ (.int t) (-12) 12 && !Nt (.int t)))=true;rw[bt _ _ _ hn.1 hn.2,bt _ _ _ t1 t2,nz t3]; rfl
  ·show(true&&true&&(aQ (.int n) 1 1000000000000&&aQ (.int t) 0 0))=true;have:=hz rfl;rw[bt _ _ _ (he rfl) hn.2,bt _ _ _ (by omega) (by omega)]; rfl
 ·have tb:t.natAbs<=100000000000000:=by
   by_cases c:g = "each"
   ·have:=hz c; omega
   ·have:=ht c; omega
  have fw:fine 0 (.str w)=true:=by rcases hw with rfl | rfl | rfl <;> decide +kernel
  have fg:fine 0 (.str g)=true:=by rcases hg with rfl | rfl | rfl <;> decide +kernel
  show fL 100000000000000 1 3000 (.tuple [.str w,.int s,.str g,.int n,.int t]);have b1:(s:Int).natAbs<=100000000000000:=by omega
  have b2:n.natAbs<=100000000000000:=by omega
  exact((((aC.one (oA fw)).append ((aC.one (bL b1)).append ((aC.one (oA fg)).append ((aC.one (bL b2)).append (aC.one (bL tb)))))).tup)).mono (a_ _) (by omega) (by omega)
theorem lQ {m M:Nat}:∀{ds:List PyData},(∀d∈ds,fL 100000000000000 m M d)->aC 100000000000000 m ((M+2)*ds.length) ds
 | [],_=>oE.mono (a_ _) (by omega) (by omega)
 | d::ds,h=>by
  have:=(aC.one (h d gj)).append (lQ fun x hx=>h x (gY _ hx));exact this.mono (a_ _) (a_ _) (by rw[fj,Nat.mul_add]; omega)
theorem yl {rs:List gP} (h:Hg rs):fP (fO rs)=true/\fL 100000000000000 2 13000 (fO rs):=by
 have h1:=h.lo;have h2:=h.hi;constructor
 ·show(decide ((1:Int)<=((rs.map jC).length:Int))&&decide (((rs.map jC).length:Int)<=4)&&((rs.map jC).map gD).all id)=true
  have:((rs.map jC).map gD).all id=true:=by
   rw[zG,Cy,iC];exact fun r hr=>(Cm (h.g r hr)).1
  rw[jh,this,eV (by omega),eV (by omega)]; rfl
 ·have:=(lQ (M:=3000) (m:=1) (ds:=rs.map jC) fun d hd=>by obtain⟨r,hr,rfl⟩:=zH.mp hd; exact(Cm (h.g r hr)).2).tup
  rw[jh] at this;exact this.mono (a_ _) (by omega) (by omega)
theorem Gj {x:Ik} (h:Qi x):cL (gZ x)=true/\fL 100000000000000 4 60000 (gZ x):=by
 have h1:=h.p;have h2:=h.m;have h3:=h.lo;have h4:=h.hi;have h5:=h.a;have h6:=h.e;have h7:=h.u;have h8:=h.d;have h9:=h.n;unfold Ey at h2
 have bt:∀(i a b:Int),a<=i->i<=b->aQ (.int i) a b=true:=fun i a b h1 h2=>by
  show(decide (a<=i)&&decide (i<=b))=true;rw[eV h1,eV h2]; rfl
 constructor
 ·show(aQ (.int x.p) 1 1000000&&aQ (.int x.m) 0 1000000000000&&(aQ (.int x.hi) 0 12&&aQ (.int x.lo) 0 x.hi)&&aQ (.int x.a) 0 4&&aQ (.int x.e) 1 6&&(decide ((2:Int)=2)&&(aQ (.int x.u) 0 9&&(aQ (.int x.d) 0 9&&true)))&&(decide (((x.iZ.map fO).length:Int)<=3)&&((x.iZ.map fO).map fP).all id))=true
  have:((x.iZ.map fO).map fP).all id=true:=by
   rw[zG,Cy,iC];exact fun r hr=>(yl (h.r r hr)).1
  rw[this,jh,bt _ _ _ h1.1 h1.2,bt _ _ _ h2.1 h2.2,bt _ _ _ (by omega) h4,bt _ _ _ h3.1 h3.2,bt _ _ _ (by omega) (by omega),bt _ _ _ h6.1 h6.2,bt _ _ _ h7.1 h7.2,bt _ _ _ h8.1 h8.2,eV (show((x.iZ.length:Nat):Int)<=3 by omega)]; rfl
 ·have i1:∀i:Int,i.natAbs<=100000000000000->aC 100000000000000 3 502 [.int i]:=fun i h=>(aC.one (bL h)).mono (a_ _) (by omega) (a_ _)
  have i2:∀i j:Int,i.natAbs<=100000000000000->j.natAbs<=100000000000000->aC 100000000000000 3 1009 [.tuple [.int i,.int j]]:=fun i j hi hj=>(aC.one ((aC.one (bL hi)).append (aC.one (bL hj))).tup).mono (a_ _) (by omega) (by omega)
  have nr:=(lQ (M:=13000) (m:=2) (ds:=x.iZ.map fO) fun d hd=>by obtain⟨r,hr,rfl⟩:=zH.mp hd; exact(yl (h.r r hr)).2).tup
  rw[jh] at nr;exact(((i1 x.p (by omega)).append ((i1 x.m (by omega)).append ((i2 x.lo x.hi (by omega) (by omega)).append ((i1 x.a (by omega)).append ((i1 x.e (by omega)).append ((i2 x.u x.d (by omega) (by omega)).append (aC.one nr))))))).tup).mono (a_ _) (by omega) (by omega)
theorem ql {b:Nat}:∀{us:List (List Int)},(∀u∈us,u.length=3/\∀z∈u,z.natAbs<=b)->aC b 1 (1600*us.length) (us.map jx)
 | [],_=>oE.mono (a_ _) (by omega) (by omega)
 | u::us,h=>by
  obtain⟨h1,h2⟩:=h u gj;have t:fL b 1 1509 (jx u):=(lU h2).tup.mono (a_ _) (by omega) (by rw[h1]; omega)
  have:=(aC.one t).append (ql fun x hx=>h x (gY _ hx));exact this.mono (a_ _) (a_ _) (by rw[fj]; omega)
theorem wA {x:Hf} (o:NP x):fL 100000000000000 3 20000 (Br x):=by
 have g2:=oG o.cn;have g3:=o.w;have g4:=o.r;have g5:=o.sm;have g6:=vI _ o.cn;have g7:=o.s;have g8:=o.t;unfold Ey at g3;have h1:aC 100000000000000 2 502 [.int x.w]:=(aC.one (bL (by omega))).mono (a_ _) (by omega) (a_ _)
 have h2:aC 100000000000000 2 502 [.int x.r]:=(aC.one (bL (by omega))).mono (a_ _) (by omega) (a_ _)
 have h3:aC 100000000000000 2 2515 [.tuple (x.cs.map .int)]:=(aC.one (lU (b:=100000000000000) (cs:=x.cs) fun c hc=>by have:=g2 c hc; have:=o.cn c hc; omega).tup).mono (a_ _) (by omega) (by rw[o.c]; omega)
 have h4:aC 100000000000000 2 502 [.int x.s]:=(aC.one (bL (by omega))).mono (a_ _) (by omega) (a_ _)
 have h5:aC 100000000000000 2 502 [.int x.t]:=(aC.one (bL (by omega))).mono (a_ _) (by omega) (a_ _)
 have h6:aC 100000000000000 2 4805 [.tuple (x.us.map jx)]:=(aC.one (ql (b:=100000000000000) (us:=x.us) fun u hu=>by
  obtain⟨a,b,c,rfl,ha,hb,hc⟩:=o.ul u hu;refine⟨rfl,fun i hi=>?_⟩;unfold Ey at *;simp only[jE,uy,or_false] at hi
  rcases hi with rfl | rfl | rfl <;> omega).tup).mono (a_ _) (by omega) (by rw[o.u]; omega)
 exact(h1.append (h2.append (h3.append (h4.append (h5.append h6))))).tup.mono (a_ _) (by omega) (by omega)
def HeadD (d:PyData):Prop:=d=.none\/d=.bool true\/d=.str "come" \/ d=.int (-1)\/d=.str "" \/ d=.bool false
def Odd (d:PyData):Prop:=(∃h r,d=.tuple (h::r)/\HeadD h/\r.length<=2)\/(∃l,d=.list l)\/∃l,d=.dict l
theorem n_ {o:PyData} (h:Odd o) (i:Int):bZ o i=false:=by
 rcases h with⟨x,r,rfl,_⟩ | ⟨l,rfl⟩ | ⟨l,rfl⟩ <;> rfl
theorem cD {o:PyData} (h:Odd o) (i j:Int):aQ o i j=false:=by
 rcases h with⟨x,r,rfl,_⟩ | ⟨l,rfl⟩ | ⟨l,rfl⟩ <;> rfl
theorem yu {o:PyData} (h:Odd o) (t:Str):Eu o t=false:=by
 rcases h with⟨x,r,rfl,_⟩ | ⟨l,rfl⟩ | ⟨l,rfl⟩ <;> rfl
theorem Gz {o:PyData} (h:Odd o):HX o=false:=by
 unfold HX;simp[yu h]
theorem Ao {d:PyData} (h:HeadD d):bZ d 0=false:=by
 rcases h with rfl | rfl | rfl | rfl | rfl | rfl <;> rfl
theorem qw {d:PyData} (h:HeadD d) (j:Int):aQ d 0 j=false:=by
 rcases h with rfl | rfl | rfl | rfl | rfl | rfl <;> rfl
theorem oJ {d:PyData} (h:HeadD d):isTup d=false:=by
 rcases h with rfl | rfl | rfl | rfl | rfl | rfl <;> rfl
theorem iI {d:PyData} (h:isTup d=false):fP d=false/\gD d=false/\∀n,aY d n=false:=by
 cases d <;> first | exact⟨rfl,rfl,fun _=>rfl⟩ | cases h
theorem d8 {α:Type} {g:α->Bool} {r:List α} {d:α} (h:d∈r) (e:g d=false):(r.map g).all id=false:=by
 rw[Cy,Bool.eq_false_iff];intro z;have:=iC.mp z d h;rw[show(id∘g) d=g d from rfl,e] at this;cases this
theorem wu {o:PyData} (h:Odd o):du o=false:=by
 rcases h with⟨x,r,rfl,hx,_⟩ | ⟨l,rfl⟩ | ⟨l,rfl⟩
 ·unfold du;split
  ·rename_i l m e;cases e;rw[qw hx]; simp
  ·rfl
 ·rfl
 ·rfl
theorem DG {o:PyData} (h:Odd o) (m:Int):pairD o m=false:=by
 rcases h with⟨x,r,rfl,hx,_⟩ | ⟨l,rfl⟩ | ⟨l,rfl⟩
 ·show(decide _&&_)=false;rw[d8 (g:=(aQ · 0 m)) gj (qw hx m)]; simp
 ·rfl
 ·rfl
theorem oh {o:PyData} (h:Odd o) (n:Int):aY o n=false:=by
 rcases h with⟨x,r,rfl,hx,_⟩ | ⟨l,rfl⟩ | ⟨l,rfl⟩
 ·show(decide _&&_)=false;rw[d8 (g:=(bZ · 0)) gj (Ao hx)]; simp
 ·rfl
 ·rfl
theorem Gy {o:PyData} (h:Odd o):gD o=false:=by
 rcases h with⟨x,r,rfl,hx,hl⟩ | ⟨l,rfl⟩ | ⟨l,rfl⟩
 ·unfold gD;split
  ·rename_i e;cases e;simp at hl
  ·rfl
 ·rfl
 ·rfl
theorem Dy {o:PyData} (h:Odd o):fP o=false:=by
 rcases h with⟨x,r,rfl,hx,_⟩ | ⟨l,rfl⟩ | ⟨l,rfl⟩
 ·show(decide _&&decide _&&_)=false;rw[d8 (g:=gD) gj (iI (oJ hx)).2.1]; simp
 ·rfl
 ·rfl
theorem z_ {o:PyData} (h:Odd o):iB o=false:=by
 rcases h with⟨x,r,rfl,hx,_⟩ | ⟨l,rfl⟩ | ⟨l,rfl⟩
 ·show(decide _&&_)=false;rw[d8 (g:=fP) gj (iI (oJ hx)).1]; simp
 ·rfl
 ·rfl
def Cg (d:PyData):Bool:=cz d 3&&((partsOf d).map (aY · 3)).all id
theorem Dw {o:PyData} (h:Odd o):Cg o=false:=by
 rcases h with⟨x,r,rfl,hx,_⟩ | ⟨l,rfl⟩ | ⟨l,rfl⟩
 ·show(cz _ 3&&((x::r).map (aY · 3)).all id)=false;rw[d8 (g:=(aY · 3)) gj ((iI (oJ hx)).2.2 3)]; simp
 ·rfl
 ·rfl
theorem Dz {o:PyData} (h:Odd o):cL o=false:=by
 rcases h with⟨x,r,rfl,hx,hl⟩ | ⟨l,rfl⟩ | ⟨l,rfl⟩
 ·unfold cL;split
  ·rename_i e;cases e;simp at hl
  ·rfl
 ·rfl
 ·rfl
theorem z9 {o:PyData} (h:Odd o):bK o=false:=by
 rcases h with⟨x,r,rfl,hx,hl⟩ | ⟨l,rfl⟩ | ⟨l,rfl⟩
 ·unfold bK;split
  ·rename_i e;cases e;simp at hl
  ·rfl
 ·rfl
 ·rfl
inductive tQ (o:PyData):List PyData->List PyData->Prop
 | behind (ds):tQ o ds (ds++[o])
 | here (ds) (i:Nat):i<ds.length->tQ o ds (ds.set i o)
 | deep (ds) (i:Nat) (es es':List PyData):ds[i]?=some (.tuple es)->tQ o es es'->tQ o ds (ds.set i (.tuple es'))
theorem nT {o:PyData} {es:List Int} {r:List PyData} (h:tQ o (es.map .int) r):r=es.map .int++[o]\/∃i,i<es.length/\r=(es.map .int).set i o:=by
 generalize hd:es.map PyData.int=ds at h;cases h with
 | behind=>exact .inl rfl
 | here _ i hi=>exact .inr ⟨i,by rw[<- hd] at hi; simpa using hi,rfl⟩
 | deep _ i fs fs' e _=>
  rw[<- hd,gU] at e;cases q:es[i]? <;> rw[q] at e <;> simp at e
theorem vR {o:PyData} (h:Odd o) {a b:Int} {r:List PyData} (p:tQ o [.int a,.int b] r):du (.tuple r)=false:=by
 rcases nT (es:=[a,b]) p with rfl | ⟨i,hi,rfl⟩
 ·rfl
 ·have:i=0\/i=1:=by simp at hi; omega
  rcases this with rfl | rfl
  ·show(aQ (.int b) 0 12&&aQ o 0 (intOf (.int b)))=false;rw[cD h]; simp
  ·show(aQ o 0 12&&_)=false;rw[cD h]; rfl
theorem Dd {o:PyData} (h:Odd o) {a b:Int} {r:List PyData} (p:tQ o [.int a,.int b] r):pairD (.tuple r) 9=false:=by
 rcases nT (es:=[a,b]) p with rfl | ⟨i,hi,rfl⟩
 ·rfl
 ·show(decide _&&_)=false;have hm:o∈([a,b].map PyData.int).set i o:=List.mem_set (by simpa using hi) o
  rw[d8 (g:=(aQ · 0 9)) hm (cD h 0 9)]; simp
theorem nU {o:PyData} (h:Odd o) {es:List Int} {n:Nat} (hn:es.length=n) {r:List PyData} (p:tQ o (es.map .int) r):aY (.tuple r) n=false:=by
 rcases nT p with rfl | ⟨i,hi,rfl⟩
 ·show(decide _&&_)=false;rw[ji]
  ·rfl
  ·rw[jk,jh]; simp; omega
 ·show(decide _&&_)=false;have hm:o∈(es.map PyData.int).set i o:=List.mem_set (by simpa using hi) o
  rw[d8 (g:=(bZ · 0)) hm (n_ h 0)]; simp
theorem Gf {o:PyData} (h:Odd o) {x:gP} {r:List PyData} (p:tQ o [.str x.w,.int x.s,.str x.g,.int x.n,.int x.t] r):gD (.tuple r)=false:=by
 generalize hd:[PyData.str x.w,.int x.s,.str x.g,.int x.n,.int x.t]=ds at p;cases p with
 | behind=>subst hd; rfl
 | here _ i hi=>
  subst hd;have:i=0\/i=1\/i=2\/i=3\/i=4:=by simp at hi; omega
  rcases this with rfl | rfl | rfl | rfl | rfl
  ·show(HX o&&_&&_)=false;rw[Gz h]; rfl
  ·show(_&&aQ o 1 4&&_)=false;rw[cD h]; simp
  ·show(_&&_&&bN o _ _)=false;have:bN o (.int x.n) (.int x.t)=false:=by unfold bN; simp[yu h]
   rw[this]; simp
  ·show(_&&_&&bN _ o _)=false;have:bN (.str x.g) o (.int x.t)=false:=by unfold bN; simp[cD h]
   rw[this]; simp
  ·show(_&&_&&bN _ _ o)=false;have:bN (.str x.g) (.int x.n) o=false:=by unfold bN; simp[cD h]
   rw[this]; simp
 | deep _ i fs fs' e _=>
  subst hd
  match i,e with
  | 0,e=>cases e
  | 1,e=>cases e
  | 2,e=>cases e
  | 3,e=>cases e
  | 4,e=>cases e
  | i+5,e=>cases e
theorem rB {o:PyData} {ds r:List PyData} (p:tQ o ds r):o∈r\/∃(i:Nat) (es es':List PyData),ds[i]?=some (.tuple es)/\tQ o es es'/\.tuple es'∈r:=by
 cases p with
 | behind=>exact .inl (by simp)
 | here _ i hi=>exact .inl (List.mem_set hi o)
 | deep _ i es es' e q=>exact .inr ⟨i,es,es',e,q,List.mem_set (lL.mp e).1 _⟩
theorem C_ {o:PyData} (h:Odd o) {rs:List gP} {r:List PyData} (p:tQ o (rs.map jC) r):fP (.tuple r)=false:=by
 show(decide _&&decide _&&_)=false
 have:(r.map gD).all id=false:=by
  rcases rB p with hm | ⟨i,es,es',e,q,hm⟩
  ·exact d8 hm (Gy h)
  ·rw[gU] at e;cases z:rs[i]? with
   | none=>rw[z] at e; cases e
   | some x=>
    rw[z] at e;cases e;exact d8 hm (Gf h q)
 rw[this]; simp
theorem zQ {o:PyData} (h:Odd o) {iZ:List (List gP)} {r:List PyData} (p:tQ o (iZ.map fO) r):iB (.tuple r)=false:=by
 show(decide _&&_)=false
 have:(r.map fP).all id=false:=by
  rcases rB p with hm | ⟨i,es,es',e,q,hm⟩
  ·exact d8 hm (Dy h)
  ·rw[gU] at e;cases z:iZ[i]? with
   | none=>rw[z] at e; cases e
   | some x=>
    rw[z] at e;cases e;exact d8 hm (C_ h q)
 rw[this]; simp
theorem CZ {o:PyData} (h:Odd o) {us:List (List Int)} (hu:∀u∈us,u.length=3) {r:List PyData} (p:tQ o (us.map jx) r):Cg (.tuple r)=false:=by
 show(_&&(r.map (aY · 3)).all id)=false
 have:(r.map (aY · 3)).all id=false:=by
  rcases rB p with hm | ⟨i,es,es',e,q,hm⟩
  ·exact d8 (g:=(aY · 3)) hm (oh h 3)
  ·rw[gU] at e;cases z:us[i]? with
   | none=>rw[z] at e; cases e
   | some x=>
    rw[z] at e;cases e;exact d8 (g:=(aY · 3)) hm (nU h (hu x (F_ z)) q)
 rw[this]; simp
def lN (x:Ik):List PyData:=[.int x.p,.int x.m,.tuple [.int x.lo,.int x.hi],.int x.a,.int x.e,.tuple [.int x.u,.int x.d],.tuple (x.iZ.map fO)]
def jy (x:Hf):List PyData:=[.int x.w,.int x.r,.tuple (x.cs.map .int),.int x.s,.int x.t,.tuple (x.us.map jx)]
theorem dG {a b c d e f g:PyData} (h:aQ a 1 1000000=false\/aQ b 0 1000000000000=false\/du c=false\/aQ d 0 4=false\/aQ e 1 6=false\/pairD f 9=false\/iB g=false):cL (.tuple [a,b,c,d,e,f,g])=false:=by
 show(_&&_&&_&&_&&_&&_&&_)=false;rcases h with h | h | h | h | h | h | h <;> rw[h] <;> simp
theorem d_ {a b c e r s:PyData} (h:bZ a 0=false\/bZ b 0=false\/aY c 5=false\/aQ e 0 5=false\/aQ r 0 9=false\/Cg s=false):bK (.tuple [a,b,c,e,r,s])=false:=by
 show(_&&(_&&_&&_)&&_&&_&&_&&_)=false;rcases h with h | h | h | h | h | h
 ·rw[h]; simp
 ·rw[h]; simp
 ·rw[h]; simp
 ·rw[h]; simp
 ·rw[h]; simp
 ·have:(cz s 3&&((partsOf s).map (aY · 3)).all id)=false:=h;rw[Bool.and_assoc _ (cz s 3),this]; simp
theorem Gg {o:PyData} {ds r:List PyData} (p:tQ o ds r):r.length=ds.length\/r.length=ds.length+1:=by
 cases p with
 | behind=>exact .inr (by simp)
 | here _ i hi=>exact .inl (by simp)
 | deep _ i es es' e q=>exact .inl (by simp)
theorem Dc {o:PyData} (h:Odd o) {x:Ik} {r:List PyData} (p:tQ o (lN x) r):cL (.tuple r)=false/\bK (.tuple r)=false:=by
 have hl:=Gg p
 have hs:bK (.tuple r)=false:=by
  unfold bK;split
  ·rename_i e;cases e;rcases hl with z | z <;> simp[lN] at z
  ·rfl
 refine⟨?_,hs⟩;generalize hd:lN x=ds at p;cases p with
 | behind=>subst hd; rfl
 | here _ i hi=>
  subst hd;have:i=0\/i=1\/i=2\/i=3\/i=4\/i=5\/i=6:=by simp[lN] at hi; omega
  rcases this with rfl | rfl | rfl | rfl | rfl | rfl | rfl
  ·exact dG (.inl (cD h _ _))
  ·exact dG (.inr (.inl (cD h _ _)))
  ·exact dG (.inr (.inr (.inl (wu h))))
  ·exact dG (.inr (.inr (.inr (.inl (cD h _ _)))))
  ·exact dG (.inr (.inr (.inr (.inr (.inl (cD h _ _))))))
  ·exact dG (.inr (.inr (.inr (.inr (.inr (.inl (DG h _)))))))
  ·exact dG (.inr (.inr (.inr (.inr (.inr (.inr (z_ h)))))))
 | deep _ i es es' e q=>
  subst hd
  match i,e with
  | 0,e=>cases e
  | 1,e=>cases e
  | 2,e=>cases e; exact dG (.inr (.inr (.inl (vR h q))))
  | 3,e=>cases e
  | 4,e=>cases e
  | 5,e=>cases e; exact dG (.inr (.inr (.inr (.inr (.inr (.inl (Dd h q)))))))
  | 6,e=>cases e; exact dG (.inr (.inr (.inr (.inr (.inr (.inr (zQ h q)))))))
  | i+7,e=>cases e
theorem zP {o:PyData} (h:Odd o) {x:Hf} (hx:NP x) {r:List PyData} (p:tQ o (jy x) r):cL (.tuple r)=false/\bK (.tuple r)=false:=by
 have hu:∀u∈x.us,u.length=3:=fun u hu=>by obtain⟨a,b,c,rfl,_⟩:=hx.ul u hu; rfl
 have HW:∀{r:List PyData},r.length=6->cL (.tuple r)=false:=fun {r} hr=>by
  unfold cL;split
  ·rename_i e;cases e;simp at hr
  ·rfl
 generalize hd:jy x=ds at p;cases p with
 | behind=>
  subst hd;refine⟨?_,rfl⟩;show cL (.tuple [.int x.w,.int x.r,.tuple (x.cs.map .int),.int x.s,.int x.t,.tuple (x.us.map jx),o])=false;refine dG (.inr (.inr (.inl ?_)));have hc:=hx.c;unfold du;split
  ·rename_i l m e;have e':x.cs.map PyData.int=[l,m]:=by injection e
   have:=lE List.length e';rw[jh,hc] at this;cases this
  ·rfl
 | here _ i hi=>
  subst hd;refine⟨HW (by simp[jy]),?_⟩
  have:i=0\/i=1\/i=2\/i=3\/i=4\/i=5:=by simp[jy] at hi; omega
  rcases this with rfl | rfl | rfl | rfl | rfl | rfl
  ·exact d_ (.inl (n_ h _))
  ·exact d_ (.inr (.inl (n_ h _)))
  ·exact d_ (.inr (.inr (.inl (oh h _))))
  ·exact d_ (.inr (.inr (.inr (.inl (cD h _ _)))))
  ·exact d_ (.inr (.inr (.inr (.inr (.inl (cD h _ _))))))
  ·exact d_ (.inr (.inr (.inr (.inr (.inr (Dw h))))))
 | deep _ i es es' e q=>
  subst hd;refine⟨HW (by simp[jy]),?_⟩
  match i,e with
  | 0,e=>cases e
  | 1,e=>cases e
  | 2,e=>cases e; exact d_ (.inr (.inr (.inl (nU (n:=5) h hx.c q))))
  | 3,e=>cases e
  | 4,e=>cases e
  | 5,e=>cases e; exact d_ (.inr (.inr (.inr (.inr (.inr (CZ h hu q))))))
  | i+6,e=>cases e
theorem BX {x:Hf} (h:NP x):bK (Br x)=true:=by
 have h1:=h.w;have h4:=h.s;have h5:=h.t;unfold Ey at h1;show(bZ (.int x.w) 0&&(bZ (.int x.r) 0&&aY (.tuple (x.cs.map .int)) 5&&decide (x.r+((x.cs.map PyData.int).map intOf).sum<=12))&&aQ (.int x.s) 0 5&&aQ (.int x.t) 0 9&&decide (((x.us.map jx).length:Int)=3)&&((x.us.map jx).map (aY · 3)).all id)=true;have ff:∀i:Int,0<=i->bZ (.int i) 0=true:=fun i hi=>eV hi
 have bt:∀(i a b:Int),a<=i->i<=b->aQ (.int i) a b=true:=fun i a b h1 h2=>by
  show(decide (a<=i)&&decide (i<=b))=true;rw[eV h1,eV h2]; rfl
 have cc:∀(l:List Int) (n:Nat),l.length=n->(∀y∈l,0<=y)->aY (.tuple (l.map .int)) n=true:=fun l n hl hp=>by
  show(decide _&&_)=true;rw[jh,eV (by omega),Bool.true_and,zG,Cy,iC]
  exact fun y hy=>ff y (hp y hy)
 have es:((x.cs.map PyData.int).map intOf)=x.cs:=by
  rw[zG];exact(List.map_congr_left fun a _=>rfl).trans (List.map_id _)
 have e6:((x.us.map jx).map (aY · 3)).all id=true:=by
  rw[zG,Cy,iC];intro u hu;obtain⟨a,b,c,rfl,ha,hb,hc⟩:=h.ul u hu;unfold Ey at ha hb hc;refine cc [a,b,c] 3 rfl fun y hy=>?_;simp only[jE,uy,or_false] at hy;rcases hy with rfl | rfl | rfl <;> omega
 have e5:aY (.tuple (x.cs.map .int)) 5=true:=cc x.cs 5 h.c h.cn;rw[es,e6,e5,ff _ h1.1,ff _ h.r,bt _ _ _ h4.1 h4.2,bt _ _ _ h5.1 h5.2,jh,h.u,eV h.sm]; rfl
theorem vU (x:Ik):bK (gZ x)=false:=rfl
theorem ph (x:Hf):cL (Br x)=false:=rfl
theorem xY {H H':Hp} {a:Addr} {n:Nat} (t:Tp H' a n) (s:SX a H H'):∀b,H' b=none->H b=none:=fun b h=>by
 cases q:H b with
 | none=>rfl
 | some o=>
  by_cases e:b=a
  ·subst e;obtain⟨x,y,z,h',_⟩:=t;rw[h'] at h; cases h
  ·rw[s.get e q] at h; cases h
def mW (n:Nat):Nat:=6000*2 ^ n-2015
def mT (n:Nat):Nat:=8*2 ^ n-3
theorem GJ (n:Nat):mW (n+1)=2*mW n+2015:=by
 unfold mW;have:1<=2 ^ n:=FT;rw[Nat.pow_succ]; omega
theorem Mm (n:Nat):3985<=mW n:=by
 unfold mW;have:1<=2 ^ n:=FT;omega
theorem GK (n:Nat):mT (n+1)=2*mT n+3:=by
 unfold mT;have:1<=2 ^ n:=FT;rw[Nat.pow_succ]; omega
theorem Mp (n:Nat):5<=mT n:=by
 unfold mT;have:1<=2 ^ n:=FT;omega
theorem qm {n:Nat} (h:n<=10):mT n<=8192:=by
 unfold mT;have:2 ^ n<=2 ^ 10:=Nat.pow_le_pow_right (by decide) h
 omega
theorem zT {y:Int} (l:0<=y) (u:y<6):∃d v,HeadD d/\Wt 0 500 d/\(∀H,At H d v)/\Bf [.non,.bl true,.str "come",.int (-1),.str "",.bl false] y=some v:=by
 have:y=0\/y=1\/y=2\/y=3\/y=4\/y=5:=by omega
 have ws:∀x:Str,fine 0 (.str x)=true->Wt 0 500 (.str x):=fun x h=>(oA (b:=0) h).wt (by decide)
 rcases this with rfl | rfl | rfl | rfl | rfl | rfl
 ·exact⟨.none,.non,.inl rfl,(lR (b:=0) (.inl rfl)).wt (by decide),fun _=>At.non,rfl⟩
 ·exact⟨.bool true,.bl true,.inr (.inl rfl),(lR (b:=0) (.inr ⟨_,rfl⟩)).wt (by decide),fun _=>At.bool _,rfl⟩
 ·exact⟨.str "come",.str "come",.inr (.inr (.inl rfl)),ws _ (by decide +kernel),fun _=>At.str _,rfl⟩
 ·exact⟨.int (-1),.int (-1),.inr (.inr (.inr (.inl rfl))),(bL (b:=1) (by decide)).wt (by decide),fun _=>At.int _,rfl⟩
 ·exact⟨.str "",.str "",.inr (.inr (.inr (.inr (.inl rfl)))),ws _ (by decide +kernel),fun _=>At.str _,rfl⟩
 ·exact⟨.bool false,.bl false,.inr (.inr (.inr (.inr (.inr rfl)))),(lR (b:=0) (.inr ⟨_,rfl⟩)).wt (by decide),fun _=>At.bool _,rfl⟩
def ig (n:Nat):Sp:=fun vs H Q _=>∃(a:Addr) (t:Nat),vs=[.ref a,.int n]/\1<=n/\n<=10/\Tp H a t/\t+mT n<=500000000/\∀v d H',Odd d->Wt n (mW n) d->At (nw H H') d v->Tp H' a (t+mT n)->SX a H H'->Q v H'
theorem k_:aW ["_law_tape_here","_law_deep","_law_some","_law_turn","_law_way"] ["_law_tape_here","_law_deep"] (aF jV):=(by walk_at "c")
theorem v9 (F:iV K "_law_made" "_law_made" jV f fd):bI P w K mg base gw (k+1) f fd ["_law_tape_here","_law_deep"] (ig 0):=by
 refine F.ok k_ (by rintro vs H Q E ⟨a,t,rfl,_⟩; rfl) (fun cdv A outer s H vs Q E hr h=>?_)
 obtain⟨a,t,rfl,h,_⟩:=h;exact absurd h (by decide)
theorem Aa {H:Hp} {ds:List PyData} {ys:List V} (h:aq H ds ys):g_ H ((List.range ds.length).map fun(i:Nat)=>(PyData.int (i:Int),ds.getD i .none)) (kE ys):=by
 have hl:=h.length
 have gen:∀(m s:Nat),s+m<=ds.length->g_ H ((List.range' s m).map fun(i:Nat)=>(PyData.int (i:Int),ds.getD i .none)) ((List.range' s m).map fun(i:Nat)=>((Sum.inl (i:Int):Key),ys.getD i .non)):=by
  intro m
  induction m with
  | zero=>intro s _; unfold g_; rfl
  | succ m ih=>
   intro s hs;rw[List.range'_succ,gR,gR];unfold g_;obtain⟨x,ex,ax⟩:=h.getD (pB (show s<ds.length by omega))
   refine⟨_,_,_,rfl,rfl,?_,ih (s+1) (by omega)⟩
   rw[ym,ym,pB (show s<ds.length by omega),ex]
   exact ax
 unfold kE;rw[hl,List.range_eq_range'];exact gen ds.length 0 (by omega)
theorem rC {ys:List V} (h:1<=ys.length/\ys.length<=3):rD [] (kE ys)=kE ys:=by
 match ys,h with
 | [a],_=>rfl
 | [a,b],_=>rfl
 | [a,b,c],_=>rfl
theorem cF (n:Nat) (F:iV K "_law_made" "_law_made" jV f fd) (B:Bi mg) (aD:Ct P w K mg base k "_law_draw" ["_law_tape_here","_law_many"] fU) (Em:Ct P w K mg base k "_law_made" ["_law_tape_here","_law_deep"] (ig n)):bI P w K mg base gw (k+1) f fd ["_law_tape_here","_law_deep"] (ig (n+1)):=by
 refine F.ok k_ (by rintro vs H Q E ⟨a,t,rfl,_⟩; rfl) (fun cdv A outer s H vs Q E hr h=>?_)
 obtain⟨a,t,rfl,hn1,hn,tp,ht,q⟩:=h;have ND:=k_.nd;refine⟨_,(au (bc (i:=2) ND rfl (by walk_at "o") (rJ (aj (cZ bT (di (aj Jr (aj cA (aj bO (aj (HQ Bx ak) (aj bO (aj cA aa))))))) (pf aD hr (aj (pv 0) (aj ak aa))) (fun _ _=>rfl)) aa))) (au (lM PassesOwn.never rfl (dz (by rfl) B.range (aj (pf aD hr (aj (pv 0) (aj ak aa))) aa)) (aV (i:=3) ND rfl (by walk_at "o")) (aB (rF (nZ (K:=K) rfl PySem.F.plainAttrs_list PySem.F.slot_list_append PySem.F.type_list_append jc (pv 2) (aj (cP (bz yt (pv 1) ak (aZ _)) (pf Em hr (aj (pv 0) (aj (aN rK (pv 1) ak) aa))) (pf aD hr (aj (pv 0) (aj ak aa)))) aa))))) (au (bc (i:=4) ND rfl (by walk_at "o") (pf aD hr (aj (pv 0) (aj ak aa)))) (au (cO (bz fQ (pv 4) ak (aZ _)) (aB (aM (pt (xH hr.units rfl) B.dict G8 (aj (uD (nt:=2) (N':=["_law_k","_law_one"]) (js:=[]) rfl (yq (K:=K) rfl B.enumerate (aj (pv 2) aa)) xV.of (fun fp s' H'=>(jb (K:=K) (n:=2) rfl rfl (aX (aV (i:=0) (by show List.Nodup (["_law_k","_law_one"]:List Str); decide) rfl (.inl (zO rfl)) (.inr (zO rfl))) (aX (aV (i:=1) (by show List.Nodup (["_law_k","_law_one"]:List Str); decide) rfl (.inl (zO rfl)) (.inr (zO rfl))) i_)))) (fun fp s' H'=>yF) (fun fp s' H'=>(dh (aj (pv 0) (aj (pv 1) aa))))) aa)))) bw) (aB (aM (cP (bz fQ (aN fu (pv 4) ak) ak (aZ _)) (pt (gn) B.tuple dJ (aj (pv 2) aa)) (pv 2)))))))),?_⟩
 have hT:=qm (n:=n) (by omega)
 have hT2:=GK n;have hW2:=GJ n;have V5:=Mm n;walk_at "rd";refine⟨1,rfl,?_⟩;walk_at "rd";refine⟨(by decide),fun p1 H1 f1 s1 e1=>?_⟩
 refine cJ.of (tp.same s1) (by omega) (by decide) (by decide) fun y1 H2 l2 u2 t2 s2=>?_
 have n1:p1≠a:=tp.ne f1;obtain⟨hd,hv,hh,hw,hat,eh⟩:=zT l2 u2;refine Ix.lst (s2.get n1 e1) eh ?_;refine⟨(by decide),fun p H3 f3 s3 e3 np=>?_⟩
 have pa:p≠a:=t2.ne f3
 have hp:H p=none:=by
  cases z:H p with
  | none=>rfl
  | some o=>
   by_cases e:p=a
   ·exact absurd e pa
   ·rw[((SX.of s1).trans s2).get e z] at f3; cases f3
 rw[jN];walk_at "rd";refine cJ.of (t2.same s3) (by omega) (by decide) (by decide) fun m H4 l4 u4 t4 s4=>?_
 obtain⟨Pv,hPv⟩:∃Pv:Nat->St->Hp->Prop,∀i σ H',Pv i σ H'↔∃(ds:List PyData) (ys:List V) (o3:Option V),σ=[some (.ref a),some (.int (n+1:Nat)),some (.ref p),o3,none]/\ds.length=i/\ys.length=i/\aR n (502+i*(mW n+2)) (hd::ds)/\H' p=some (.lst (hv::ys))/\aq (hid p (nw H H')) (hd::ds) (hv::ys)/\Tp H' a (t+2+i*mT n)/\SX a H H':=⟨_,fun _ _ _=>Iff.rfl⟩;refine FK.of (n:=m.toNat) (by omega) (by omega) Pv ((hPv _ _ _).mpr ⟨[],[],_,rfl,rfl,rfl,?_,s4.get pa e3,?_,t4.mono (by omega),(SX.of s1).trans (s2.trans ((SX.of s3).trans s4))⟩) ?_ ?_
 ·exact(aR.cons (hw.mono (fW _) (a_ _)) aR.nil).mono (a_ _) (by omega)
 ·exact aq.cons (hat _) aq.nil
 ·intro i σ H5 hi pv;obtain⟨ds,ys,o3,rfl,ld,ly,wt,h5,a5,t5,s5⟩:=(hPv _ _ _).mp pv;have V3:i<2:=by omega
  have Sd:i*mT n<=1*mT n:=Nat.mul_le_mul_right _ (by omega)
  walk_at "rd";refine⟨.inl ⟨rfl,_,fJ.of h5⟩,?_⟩
  have app:∀(v:V) (d:PyData) (H6:Hp),Wt n (mW n) d->At (nw H5 H6) d v->Tp H6 a (t+2+i*mT n+mT n)->SX a H5 H6->∃q ys' x,V.ref p=.ref q/\[v]=[x]/\H6 q=some (.lst ys')/\ys'.length<sizeLine/\Pv (i+1) [some (.ref a),some (.int (n+1:Nat)),some (.ref p),some (.int (0+(i:Nat))),none] (upd H6 q (.lst (ys'++[x]))):=by
   intro v d H6 wd ad t6 s6;have h6:=s6.get pa h5;refine⟨p,_,_,rfl,rfl,h6,by rw[fj,ly]; exact bA (by omega),(hPv _ _ _).mpr ⟨ds++[d],ys++[v],_,rfl,by rw[jk,ld]; rfl,by rw[jk,ly]; rfl,?_,aA,?_,?_,?_⟩⟩
   ·exact(aR.snoc wt wd).mono (a_ _) (by rw[Nat.add_mul]; omega)
   ·have g5:=xY t5 s5
    have k1:aH (hid p (nw H H5)) (hid p (nw H (upd H6 p (.lst (hv::ys++[v]))))):=fun b o e=>by
     obtain⟨nb,e⟩:=dg e;rw[bx nb];obtain⟨z1,z2,z3⟩:=eY e;have ba:b≠a:=fun z=>by subst z; obtain⟨_,_,_,z',_⟩:=tp; rw[z'] at z1; cases z1
     exact gm z1 (by rw[aL nb]; exact s6.get ba z2) z3
    have k2:aH (nw H5 H6) (hid p (nw H (upd H6 p (.lst (hv::ys++[v]))))):=fun b o e=>by
     obtain⟨z1,z2,z3⟩:=eY e;have nb:b≠p:=fun z=>by rw[z,h5] at z1; cases z1
     rw[bx nb];exact gm (g5 b z1) (by rw[aL nb]; exact z2) z3
    exact(a5.mono k1).append (aq.cons (ad.mono k2) aq.nil)
   ·exact(t6.dD pa).mono (by rw[Nat.add_mul]; omega)
   ·exact(s5.trans s6).dD hp pa
  by_cases hn0:n=0
  ·subst hn0;rw[bB (by simp)]
   refine cJ.of t5 (by omega) (by decide) (by decide) fun y H6 l6 u6 t6 s6=>?_
   exact app _ (.int y) H6 ((bL (b:=9) (by omega)).wt (by decide)|>.mono (a_ _) (by omega)) (At.int y) (t6.mono (by have:=Mp 0; omega)) s6
  ·rw[bj (by simp; omega)]
   refine⟨a,_,by rw[show((n+1:Nat):Int)-1=(n:Int) by omega],by omega,by omega,t5,by omega,fun v d H6 _ wd ad t6 s6=>?_⟩
   exact app v d H6 wd ad (t6.mono (by omega)) s6
 ·intro σ H5 pv;obtain⟨ds,ys,o3,rfl,ld,ly,wt,h5,a5,t5,s5⟩:=(hPv _ _ _).mp pv;have hm2:m.toNat<=2:=by omega
  have V2:m.toNat*mT n<=2*mT n:=Nat.mul_le_mul_right _ hm2;have V1:m.toNat*(mW n+2)<=2*(mW n+2):=Nat.mul_le_mul_right _ hm2;walk_at "rd";refine cJ.of t5 (by omega) (by decide) (by decide) fun way H6 l6 u6 t6 s6=>?_
  have h6:=s6.get pa h5
  have a6:aq (hid p (nw H H6)) (hd::ds) (hv::ys):=a5.mono fun b o e=>by
   obtain⟨nb,e⟩:=dg e;rw[bx nb];obtain⟨z1,z2,z3⟩:=eY e;have ba:b≠a:=fun z=>by subst z; obtain⟨_,_,_,z',_⟩:=tp; rw[z'] at z1; cases z1
   exact gm z1 (s6.get ba z2) z3
  have Lj:=s5.trans s6;have g6:=xY t6 Lj;walk_at "rd";have RN:∀{l:List PyData},Odd (.tuple (hd::ds)):=fun {_}=>.inl ⟨hd,ds,rfl,hh,by omega⟩
  refine bu (fun c1=>?_) (fun c1=>?_)
  ·refine xm (fun R hR=>by walk_at "rd"; exact hR) h6 (by rw[fj,ly]; omega) (fun i x H' _ _ R hR=>?_) fun acc zs H7 s7 f7 e7 pk=>?_
   ·walk_at "rd";exact⟨(by decide),hR⟩
   ·refine⟨acc,zs,_,rfl,e7,?_,pk,fun l fl=>?_⟩
    ·rw[pk.n]; simp only[kE,jh,List.length_range,fj,ly]; omega
    ·rw[rC (ys:=hv::ys) (by rw[fj,ly]; omega)]
     have la:l≠a:=(t6.same s7).ne fl
     have hl0:H l=none:=by
      cases z:H l with
      | none=>rfl
      | some o=>rw[s7 _ _ (Lj.get la z)] at fl; cases fl
     have A7:aq (nw H (upd H7 l (.dK (kE (hv::ys))))) (hd::ds) (hv::ys):=a6.mono fun b o e=>by
      obtain⟨nb,e⟩:=dg e;obtain⟨z1,z2,z3⟩:=eY e;have bl:b≠l:=fun z=>by rw[z] at z2; rw[s7 _ _ z2] at fl; cases fl
      exact gm z1 (by rw[aL bl]; exact s7 _ _ z2) z3
     refine q _ (.dict ((List.range (hd::ds).length).map fun(i:Nat)=>(PyData.int (i:Int),(hd::ds).getD i .none))) _ (.inr (.inr ⟨_,rfl⟩)) ?_ ?_ ((t6.same s7).dD la |>.mono (by omega)) ((Lj.trans (SX.of s7)).dD hl0 la)
     ·refine((aR.dct (kvs:=(List.range (hd::ds).length).map fun(i:Nat)=>(PyData.int (i:Int),(hd::ds).getD i .none)) (fun x hx=>?_) (M:=502+m.toNat*(mW n+2)) ?_).mono (a_ _) ?_)
      ·obtain⟨i,hi,rfl⟩:=zH.mp hx;have hi':=zK.mp hi;rw[fj] at hi';exact(bL (b:=9) (by omega)).wt (by decide) |>.mono (fW _) (a_ _)
      ·have e:((List.range (hd::ds).length).map fun(i:Nat)=>(PyData.int (i:Int),(hd::ds).getD i .none)).map (·.2)=hd::ds:=by
        rw[zG]
        apply List.ext_getElem
        ·simp
        ·intro j h1 h2;simp only[List.getElem_map,List.getElem_range,Function.comp];rw[ym,pB h2]; rfl
       rw[e]; exact wt
      ·rw[jh,List.length_range,fj,ld]; omega
     ·unfold At;exact⟨l,_,rfl,gm hl0 aA (fun _ e=>nomatch e),Aa A7⟩
  ·refine⟨by decide,bu (fun c2=>?_) (fun c2=>?_)⟩
   ·refine⟨p,_,rfl,h6,fun l fl=>?_⟩;have la:l≠a:=t6.ne fl;have hl0:=g6 l fl;refine q _ (.tuple (hd::ds)) _ (.inl ⟨hd,ds,rfl,hh,by omega⟩) (wt.tup.mono (a_ _) (by omega)) ?_ ((t6.dD la).mono (by omega)) (Lj.dD hl0 la)
    refine At.tup (gm hl0 aA (fun _ e=>nomatch e)) (a6.mono fun b o e=>?_)
    obtain⟨nb,e⟩:=dg e;obtain⟨z1,z2,z3⟩:=eY e;have bl:b≠l:=fun z=>by rw[z,fl] at z2; cases z2
    exact gm z1 (by rw[aL bl]; exact z2) z3
   ·exact q _ (.list (hd::ds)) _ (.inr (.inl ⟨_,rfl⟩)) (wt.lst.mono (a_ _) (by omega)) (At.lst (gm hp h6 (fun _ _=>np)) (a6.mono cW)) (t6.mono (by omega)) Lj
mutual
def tU:PyData->Bool
 | .int _=>true
 | .str x=>PyData.strOk x
 | .tuple ds=>rG ds
 | _=>false
def rG:List PyData->Bool
 | []=>true
 | d::ds=>tU d&&rG ds
end
theorem nW:∀{ds:List PyData},rG ds=true↔∀d∈ds,tU d=true
 | []=>by simp[rG]
 | d::ds=>by
  have ih:=nW (ds:=ds);simp only[rG,lG,ih,jE,forall_eq_or_imp]
mutual
theorem nY:∀d:PyData,tU d=true->d.canLay0=true/\d.hasDict=false/\rQ d=true
 | .int _,_=>⟨rfl,rfl,rfl⟩
 | .str x,h=>⟨h,rfl,rfl⟩
 | .tuple ds,h=>by
  obtain⟨h1,h2,h3⟩:=yo ds (by simpa[tU] using h)
  exact⟨by simpa[PyData.canLay0] using h1,by simpa[PyData.hasDict] using h2,by simpa[rQ] using h3⟩
 | .none,h=>nomatch h
 | .bool _,h=>nomatch h
 | .list _,h=>nomatch h
 | .dict _,h=>nomatch h
theorem yo:∀ds:List PyData,rG ds=true->PyData.canLayAll0 ds=true/\PyData.hasDictAll ds=false/\dH ds=true
 | [],_=>⟨rfl,rfl,rfl⟩
 | d::ds,h=>by
  have h':tU d=true/\rG ds=true:=by simpa[rG] using h
  obtain⟨h1,h2,h3⟩:=nY d h'.1;obtain⟨g1,g2,g3⟩:=yo ds h'.2;exact⟨by simp[PyData.canLayAll0,h1,g1],by simp[PyData.hasDictAll,h2,g2],by simp[dH,h3,g3]⟩
end
theorem Gk {r:gP} (h:Bg r):tU (jC r)=true:=by
 obtain⟨w,s,g,n,t⟩:=r;have hw:=h.is.w;have hg:=h.g;dsimp only at hw hg;simp only[jE,uy,or_false] at hw hg;have e1:PyData.strOk w=true:=by rcases hw with rfl | rfl | rfl <;> decide +kernel
 have e2:PyData.strOk g=true:=by rcases hg with rfl | rfl | rfl <;> decide +kernel
 show(PyData.strOk w&&(true&&(PyData.strOk g&&(true&&(true&&true)))))=true;rw[e1,e2]; rfl
theorem jZ {α:Type} {g:α->PyData} {l:List α} (h:∀x∈l,tU (g x)=true):tU (.tuple (l.map g))=true:=by
 show rG _=true;rw[nW];intro d hd;obtain⟨x,hx,rfl⟩:=zH.mp hd;exact h x hx
theorem uC {x:Ik} (h:Qi x):tU (gZ x)=true:=by
 have:tU (.tuple (x.iZ.map fO))=true:=jZ fun rs hrs=>jZ fun r hr=>Gk ((h.r rs hrs).g r hr);show(true&&(true&&((true&&(true&&true))&&(true&&(true&&((true&&(true&&true))&&(tU (.tuple (x.iZ.map fO))&&true)))))))=true;rw[this]; rfl
theorem qg (x:Hf):tU (Br x)=true:=by
 have h1:tU (.tuple (x.us.map jx))=true:=jZ fun u _=>jZ (g:=PyData.int) fun i _=>rfl;have h2:tU (.tuple (x.cs.map .int))=true:=jZ (g:=PyData.int) fun i _=>rfl;show(true&&(true&&(tU (.tuple (x.cs.map .int))&&(true&&(true&&(tU (.tuple (x.us.map jx))&&true))))))=true;rw[h1,h2]; rfl
theorem CW {o:PyData} {M' D':Nat} (wo:Wt D' M' o):∀{ds r:List PyData},tQ o ds r->∀{D M:Nat},aC 100000000000000 D M ds->aR (D+D') (M+M'+2) r:=by
 have hb:100000000000000<10 ^ 60:=by decide
 intro ds r p
 induction p with
 | behind ds=>
  intro D M na;exact(((na.wt hb).mono (by omega) (a_ _)).append ((aR.cons (wo.mono (Nat.le_add_left _ _) (a_ _)) aR.nil).mono (a_ _) (a_ _))).mono (a_ _) (by omega)
 | here ds i hi=>
  intro D M na;obtain⟨M1,M2,M3,nA,nB,nC,hs⟩:=na.at (pB hi);rw[Jk,bj hi];exact(((nA.wt hb).mono (by omega) (a_ _)).append (aR.cons (wo.mono (Nat.le_add_left _ _) (a_ _)) ((nC.wt hb).mono (by omega) (a_ _)))).mono (a_ _) (by omega)
 | deep ds i es es' e q ih=>
  intro D M na;have hi:=(lL.mp e).1;obtain⟨M1,M2,M3,nA,nB,nC,hs⟩:=na.at e;obtain⟨nn,hD,hM⟩:=nB.parts;have:=(ih nn).tup;rw[Jk,bj hi];exact(((nA.wt hb).mono (by omega) (a_ _)).append (aR.cons (this.mono (by omega) (a_ _)) ((nC.wt hb).mono (by omega) (a_ _)))).mono (a_ _) (by omega)
theorem qJ {H:Hp} {ds:List PyData} {xs:List V} (h:aq H ds xs) {i:Nat} (hi:i<ds.length) {d:PyData} {x:V} (hx:At H d x):aq H (ds.set i d) (xs.take i++x::xs.drop (i+1)):=by
 rw[Jk,bj hi];exact(h.take i).append (aq.cons hx (h.drop (i+1)))
theorem Dg {x:Addr} {xs:List V} {H:Hp} {j:Nat} {val:V} {Q:VK} (hx:H x=some (.tup xs)) (hj:j<xs.length) (hz:xs.length<=60000)
  (q:∀p H',aH H H'->H' p=some (.tup (xs.take j++val::xs.drop (j+1)))->Q (.ref p) H') :
  Cu (V.ref x) none (some (j:Int)) H fun x3 H1=>1<=sizeLine/\∀(p:Addr) (H':Hp),H1 p=none->aH H1 H'->H' p=some (HO.tup [val])->ur x3 (V.ref p) H' fun x4 H1=>Cu (V.ref x) (some ((j:Int)+1)) none H1 fun y H2=>ur x4 y H2 Q:=by
 have big:∀{z:Nat},z<=1000000->z<=sizeLine:=fun h=>dC h (by decide)
 refine⟨x,xs,rfl,hx,fun p4 H4 s4 e4=>?_⟩;rw[xg (by omega),rA] at e4
 refine⟨by decide,fun p6 H6 f6 s6 e6=>?_⟩
 refine⟨p4,p6,_,_,rfl,rfl,s6 _ _ e4,e6,big (by simp; omega),fun p7 H7 s7 e7=>?_⟩
 refine⟨x,xs,rfl,s7 _ _ (s6 _ _ (s4 _ _ hx)),fun p8 H8 s8 e8=>?_⟩;rw[uW (by omega),show((j:Int)+1).toNat=j+1 by omega] at e8
 refine⟨p7,p8,_,_,rfl,rfl,s8 _ _ e7,e8,big (by simp; omega),fun p9 H9 s9 e9=>?_⟩
 refine q p9 H9 (s4.trans (s6.trans (s7.trans (s8.trans s9)))) ?_;rw[e9,List.append_assoc]; rfl
def yg (n:Nat):Sp:=fun vs H Q _=>∃(a:Addr) (t:Nat) (v w:V) (ds:List PyData) (o:PyData),vs=[.ref a,v,w]/\n<=8/\Tp H a t/\t+2*n<=600000000/\At (hid a H) (.tuple ds) v/\ds≠[]/\tU (.tuple ds)=true/\fL 100000000000000 n 60000 (.tuple ds)/\At (mz (hid a H)) o w /\
 ∀p r H',tQ o ds r->At (mz (hid a H')) (.tuple r) (.ref p)->Tp H' a (t+2*n)->SX a H H'->Q (.ref p) H'
theorem nq:aW ["_law_tape_here","_law_thing","_law_odd","_law_at","_law_way"] ["_law_tape_here","_law_thing","_law_odd"] (aF mR):=(by walk_at "c")
theorem zY (F:iV K "_law_put" "_law_put" mR f fd):bI P w K mg base gw (k+1) f fd ["_law_tape_here","_law_thing","_law_odd"] (yg 0):=by
 refine F.ok nq (by rintro vs H Q E ⟨a,t,v,w,ds,o,rfl,_⟩; rfl) (fun cdv A outer s H vs Q E hr h=>?_)
 obtain⟨a,t,v,w,ds,o,rfl,_,_,_,_,_,_,h,_⟩:=h;have:=h.dp;simp only[PyData.depth] at this;omega
theorem j8 (n:Nat) (F:iV K "_law_put" "_law_put" mR f fd) (B:Bi mg) (aD:Ct P w K mg base k "_law_draw" ["_law_tape_here","_law_many"] fU) (mY:Ct P w K mg base k "_law_put" ["_law_tape_here","_law_thing","_law_odd"] (yg n)):bI P w K mg base gw (k+1) f fd ["_law_tape_here","_law_thing","_law_odd"] (yg (n+1)):=by
 refine F.ok nq (by rintro vs H Q E ⟨a,t,v,w,ds,o,rfl,_⟩; rfl) (fun cdv A outer s H vs Q E hr h=>?_)
 obtain⟨a,t,v,w,ds,o,rfl,R8,tp,ht,hv,hne,hnd,hni,hw,q⟩:=h;have ND:=nq.nd;refine⟨_,(au (rE (i:=3) (j:=4) rfl ND rfl rfl (by decide) rfl rfl (aj (pf aD hr (aj (pv 0) (aj (pb (dY (K:=K) rfl) B.len jK (aj (pv 1) aa)) aa))) (aj (pf aD hr (aj (pv 0) (aj ak aa))) aa)) (by rfl)) (au (cO (bz fQ (pv 4) ak (aZ _)) (aB (aM (aN j7 (pv 1) (dh (aj (pv 2) aa))))) bw) (au (cO (PW.pt (CV (bz yt (pv 4) ak (aZ _)) (CV (bW (pb mV B.isinstance aO (aj (cZ bT (pv 1) (pv 3) (fun _ _=>rfl)) (aj (pty (by rfl) B.tuple dJ) aa)))) (Ge (bz (Js hr.units) (cZ bT (pv 1) (pv 3) (fun _ _=>rfl)) (dh aa) (aZ _)))))) (aB (aM (aN j7 (aN j7 (gk mQ (pv 1) jY (gG (pv 3))) (dh (aj (pf mY hr (aj (pv 0) (aj (cZ bT (pv 1) (pv 3) (fun _ _=>rfl)) (aj (pv 2) aa)))) aa))) (gk mQ (pv 1) (gG (aN bC (pv 3) ak)) jY)))) bw) (aB (aM (aN j7 (aN j7 (gk mQ (pv 1) jY (gG (pv 3))) (dh (aj (pv 2) aa))) (gk mQ (pv 1) (gG (aN bC (pv 3) ak)) jY))))))),?_⟩
 obtain⟨x,xs,ds',e,rfl,h1,h2⟩:=bH hv rfl;cases e;obtain⟨xa,h1'⟩:=dg h1;have hlen:=h2.length
 have hpos:0<xs.length:=by
  cases ds with
  | nil=>exact absurd rfl hne
  | cons _ _=>rw[hlen]; simp
 obtain⟨na,hD,V6⟩:=hni.parts
 have lm:ds.length<=60000:=by
  have h3:∀l:List PyData,l.length<=bF l:=fun l=>by
   induction l with
   | nil=>exact fW _
   | cons d l ih=>simp only[bF,fj]; omega
  have:=h3 ds;have:=na.m;omega
 have big:∀{z:Nat},z<=1000000->z<=sizeLine:=fun h=>dC h (by decide)
 have hpl:∀d∈ds,tU d=true:=nW.mp hnd;walk_at "rd";refine⟨x,xs,rfl,.inr (fH.of h1'),?_⟩;refine cJ.of tp (by omega) (by omega) (by omega) fun at' H1 l1 u1 t1 s1=>?_
 refine cJ.of t1 (by omega) (by decide) (by decide) fun way H2 l2 u2 t2 s2=>?_
 refine⟨_,_,rfl,?_⟩;walk_at "rd";have s12:SX a H H2:=s1.trans s2;have x2:H2 x=some (.tup xs):=s12.get xa h1';have hd2:aq (hid a H2) ds xs:=h2.mono s12;obtain⟨j,rfl⟩:∃j:Nat,at'=j:=⟨at'.toNat,by omega⟩
 have hj:j<ds.length:=by omega
 have ej:ds[j]?=some ds[j]:=pB hj;obtain⟨vj,Pr,NK⟩:=hd2.getD ej;have RW:∀d∈ds,rQ d=true:=fun d hd=>(nY d (hpl d hd)).2.2
 have sy:∀{G:Hp},aq G ds xs->aq (mz G) ds xs:=fun {G} h=>by
  have:=At.mz (H:=upd G x (.tup xs)) (d:=.tuple ds) (v:=.ref x);clear this
  have gen:∀(l:List PyData) (ys:List V),(∀d∈l,rQ d=true)->aq G l ys->aq (mz G) l ys:=by
   intro l
   induction l with
   | nil=>intro ys _ h; unfold aq at h ⊢; exact h
   | cons d l ih=>
    intro ys hn h;obtain⟨y,r,rfl,h1,h2⟩:=aq.bR h;exact aq.cons (h1.mz (hn d gj)) (ih r (fun e he=>hn e (gY _ he)) h2)
  exact gen ds xs RW h
 have here:∀H3,aH H2 H3->Cu (V.ref x) none (some (j:Int)) H3 fun x3 H1=>1<=sizeLine/\∀(p:Addr) (H':Hp),H1 p=none->aH H1 H'->H' p=some (HO.tup [w])->ur x3 (V.ref p) H' fun x4 H1=>Cu (V.ref x) (some ((j:Int)+1)) none H1 fun y H2=>ur x4 y H2 Q:=fun H3 s3=>
  Dg (s3 _ _ x2) (by omega) (by omega) fun p H4 s4 e4=>by
   have sx:SX a H H4:=s12.trans (SX.of (s3.trans s4));have t4:=t2.same (s3.trans s4);have pa:p≠a:=t4.neT e4;refine q p _ H4 (.here ds j hj) (At.tup (j9 (by rw[bx pa]; exact e4)) ?_) (t4.mono (by omega)) sx
   exact qJ (sy (h2.mono sx)) hj (hw.mono (eG sx))
 refine bu (fun c1=>?_) (fun c1=>?_)
 ·refine⟨(by decide),fun p3 H3 f3 s3 e3=>?_⟩
  refine⟨x,p3,xs,_,rfl,rfl,s3 _ _ x2,e3,big (by simp; omega),fun p4 H4 s4 e4=>?_⟩
  have Kl:=s3.trans s4;have sx:SX a H H4:=s12.trans (SX.of Kl);have t4:=t2.same Kl;have pa:p4≠a:=t4.neT e4;exact q p4 _ H4 (.behind ds) (At.tup (j9 (by rw[bx pa]; exact e4)) ((sy (h2.mono sx)).append (aq.cons (hw.mono (eG sx)) aq.nil))) (t4.mono (by omega)) sx
 ·refine bu (fun c2=>?_) (fun c2=>here H2 (aH.refl H2));refine Ix.tup x2 (bV Pr) ?_;refine Ks.of (NK.mono cW) ?_;walk_at "rd";refine bu (fun c3=>?_) (fun c3=>here H2 (aH.refl H2));obtain⟨xj,zs,es,Mt,rfl,g1,g2⟩:=bH NK c3;refine Ix.tup x2 (bV Pr) ?_;refine⟨fW _,fun p3 H3 f3 s3 e3=>?_⟩;have cl:=nY _ (hpl ds[j] (vN hj));have dj:ds[j].depth<=n+1-1:=na.dp _ (vN hj);refine⟨ds[j],.tuple [],(NK.mono cW).mono s3,At.tup e3 aq.nil,cl.2.1,rfl,cl.1,rfl,by omega,?_⟩
  have Sh:PyData.eqv ds[j] (.tuple [])=es.isEmpty:=by
   rw[Mt];cases es with
   | nil=>rfl
   | cons d es=>simp[PyData.eqv,PyData.eqvAll]
  rw[Sh];cases hes:es with
  | nil=>rw[bB (by decide)]; exact here H3 s3
  | cons e0 V8=>
   rw[bj (by rfl)]
   have Pj:es≠[]:=by rw[hes]; simp
   refine⟨x,xs,rfl,s3 _ _ x2,fun p4 H4 s4 e4=>?_⟩;rw[xg (by omega),rA] at e4
   have Kh:=s3.trans s4;have t4:=t2.same Kh;have RK:p4≠a:=t4.neT e4;refine Ix.tup (Kh _ _ x2) (bV Pr) ?_;obtain⟨M1,M2,M3,nA,nB,nC,hsum⟩:=na.at ej;have VD:=na.m;refine⟨a,_,_,_,es,o,rfl,by omega,t4,by omega,?_,Pj,?_,?_,hw.mono (eG (s12.trans (SX.of Kh))),fun p r H5 hp a5 t5 s5=>?_⟩
   ·rw[<- Mt]; exact NK.mono (SX.of Kh)
   ·rw[<- Mt]; exact hpl ds[j] (vN hj)
   ·rw[<- Mt]; exact nB.mono (a_ _) (by omega) (by omega)
   ·refine⟨(by decide),fun p6 H6 f6 s6 e6=>?_⟩
    refine⟨p4,p6,_,_,rfl,rfl,s6 _ _ (s5.get RK e4),e6,big (by simp; omega),fun p7 H7 s7 e7=>?_⟩
    refine⟨x,xs,rfl,s7 _ _ (s6 _ _ (s5.get xa (Kh _ _ x2))),fun p8 H8 s8 e8=>?_⟩;rw[uW (by omega),show((j:Int)+1).toNat=j+1 by omega] at e8
    refine⟨p7,p8,_,_,rfl,rfl,s8 _ _ e7,e8,big (by simp; omega),fun p9 H9 s9 e9=>?_⟩
    have Oj:aH H5 H9:=s6.trans (s7.trans (s8.trans s9));have t9:=t5.same Oj;have RJ:p9≠a:=t9.neT e9;have sx:SX a H H9:=s12.trans ((SX.of Kh).trans (s5.trans (SX.of Oj)));rw[List.append_assoc] at e9;refine q p9 _ H9 (.deep ds j es r (by rw[ej,Mt]) hp) (At.tup (j9 (by rw[bx RJ]; exact e9)) ?_) (t9.mono (by omega)) sx
    exact qJ (sy (h2.mono sx)) hj (a5.mono (eG (SX.of Oj)))
structure ZM (K:PySem.W.Frag) (mg:Str->Option Value) (cj cT cg cR b_ b7 b8 cU az bh:Addr):Prop where
 Ho:mg "BadLoad" = some (.ref cj)
 Ke:mg "Beyond" = some (.ref cT)
 Hm:mg "BadYard" = some (.ref cg)
 J_:mg "NoName" = some (.ref cR)
 Hd:mg "TooLong" = some (.ref b_)
 Hb:mg "TooWide" = some (.ref b7)
 Hc:mg "TooMany" = some (.ref b8)
 Kf:mg "BadAsk" = some (.ref cU)
 Hn:mg "BadText" = some (.ref az)
 Bo:mg "HandError" = some (.ref bh)
 wM:PySem.W.kitOne K (.ref az) (.ref cj)=some false
 Ad:PySem.W.kitOne K (.ref az) (.ref cT)=some false
 wK:PySem.W.kitOne K (.ref az) (.ref cg)=some false
 Ac:PySem.W.kitOne K (.ref az) (.ref cR)=some false
 wJ:PySem.W.kitOne K (.ref az) (.ref b_)=some false
 wH:PySem.W.kitOne K (.ref az) (.ref b7)=some false
 wI:PySem.W.kitOne K (.ref az) (.ref b8)=some false
 Ae:PySem.W.kitOne K (.ref az) (.ref cU)=some false
 wL:PySem.W.kitOne K (.ref az) (.ref az)=some true
 sG:PySem.W.kitOne K (.ref az) (.ref bh)=some true
 Rr:PySem.W.kitOne K (.ref az) (.type "ValueError")=some true
 xr:Hj K az
 xs:M7 K az bh "row"
variable {cj cT cg cR b_ b7 b8 cU az bh:Addr}
def rm (C:Addr):Sp:=fun vs H Q _=>∃(a:Addr) (v:V),vs=[.ref a,v]/\H a=some (Im a C)/\∀dx,H dx=none->dx≠a->Q .non (upd (upd H dx (.xd [("row",v)])) a (Et a C dx))
theorem eE:aW ["self","row"] ["self","row"] (aF bU):=(by walk_at "c")
theorem iH (F:iV K "__init__" "BadText.__init__" bU f fd) (S:M7 K az bh "row"):bI P w K mg base gw (k+1) f fd ["self","row"] (rm az):=by
 refine F.ok eE (by rintro vs H Q E ⟨a,v,rfl,_⟩; rfl) (fun cdv A outer s H vs Q E hr h=>?_)
 obtain⟨a,v,rfl,ha,q⟩:=h;have ND:=eE.nd;refine⟨_,(aB (Jl (K:=K) rfl S (pv 0) (pv 1))),?_⟩;walk_at "rd";exact⟨a,rfl,ha,fun dx h1 h2=>q dx h1 h2⟩
def HD (C:Addr):Sp:=fun vs H Q _=>∃(a:Addr) (v:V),vs=[.ref a]/\kJ H a C "row" v/\∀H',aH H H'->Q (.str "text") H'
theorem jQ:aW ["_law_caught","_law_some","_law_words","_law_good"] ["_law_caught"] (aF iu):=(by walk_at "c")
theorem Cw.of' {a b:Addr} {xs ys:List V} {H:Hp} {Q:VK} (h1:H a=some (.lst xs)) (h2:H b=some (.lst ys)) (hz:xs.length+ys.length<=1000) (q:∀p H',H p=none->aH H H'->H' p=some (.lst (xs++ys))->Q (.ref p) H'):Cw (.ref a) (.ref b) H Q:=
 ⟨a,b,xs,ys,rfl,rfl,h1,h2,lF (bA (by omega)),fun p fp=>q p _ fp (aK fp _) aA⟩
theorem rM (F:iV K "_law_refused" "_law_refused" iu f fd) (B:Bi mg) (Z:ZM K mg cj cT cg cR b_ b7 b8 cU az bh) :
  bI P w K mg base gw (k+1) f fd ["_law_caught"] (HD az):=by
 refine F.ok jQ (by rintro vs H Q E ⟨a,v,rfl,_⟩; rfl) (fun cdv A outer s H vs Q E hr h=>?_)
 obtain⟨a,v,rfl,hE,qq⟩:=h;have ND:=jQ.nd;refine⟨_,(au (bc (i:=1) ND rfl (by walk_at "o") (di (aj (pb (cQ (K:=K) rfl) B.isinstance aO (aj (pv 0) (aj (cV (v:=.ref cj) rfl Z.Ho rfl) aa))) (aj (pb (cQ (K:=K) rfl) B.isinstance aO (aj (pv 0) (aj (cV (v:=.ref cT) rfl Z.Ke rfl) aa))) (aj (pb (cQ (K:=K) rfl) B.isinstance aO (aj (pv 0) (aj (cV (v:=.ref cg) rfl Z.Hm rfl) aa))) aa))))) (au (bc (i:=1) ND rfl (by walk_at "o") (aN Du (pv 1) (di (aj (pb (cQ (K:=K) rfl) B.isinstance aO (aj (pv 0) (aj (cV (v:=.ref cR) rfl Z.J_ rfl) aa))) (aj (pb (cQ (K:=K) rfl) B.isinstance aO (aj (pv 0) (aj (cV (v:=.ref b_) rfl Z.Hd rfl) aa))) (aj (pb (cQ (K:=K) rfl) B.isinstance aO (aj (pv 0) (aj (cV (v:=.ref b7) rfl Z.Hb rfl) aa))) aa)))))) (au (bc (i:=1) ND rfl (by walk_at "o") (aN Du (pv 1) (di (aj (pb (cQ (K:=K) rfl) B.isinstance aO (aj (pv 0) (aj (cV (v:=.ref b8) rfl Z.Hc rfl) aa))) (aj (pb (cQ (K:=K) rfl) B.isinstance aO (aj (pv 0) (aj (cV (v:=.ref cU) rfl Z.Kf rfl) aa))) (aj (pb (cQ (K:=K) rfl) B.isinstance aO (aj (pv 0) (aj (cV (v:=.ref az) rfl Z.Hn rfl) aa))) aa)))))) (au (bc (i:=2) ND rfl (by walk_at "o") (di (aj bO (aj bO (aj bO (aj bO (aj bO (aj bO (aj bO (aj bO (aj bO aa))))))))))) (au (bc (i:=3) ND rfl (by walk_at "o") (bQ (pb (cQ (K:=K) rfl) B.isinstance aO (aj (pv 0) (aj (cV (v:=.ref bh) rfl Z.Bo rfl) aa))) (bQ (pb (cQ (K:=K) rfl) B.isinstance aO (aj (pv 0) (aj (pty (by rfl) B.ValueError pP) aa))) (eQ (cM fQ (nZ (K:=K) rfl PySem.F.plainAttrs_list PySem.F.slot_list_count PySem.F.type_list_count wC (pv 1) (aj cA aa)) ak (aZ _)))))) (aB (aM (cP (bW (pv 3)) (cZ bT (pv 2) (nZ (K:=K) rfl PySem.F.plainAttrs_list PySem.F.slot_list_index PySem.F.type_list_index wB (pv 1) (aj cA aa)) (fun _ _=>rfl)) bO)))))))),?_⟩
 walk_at "rd";have R:∀(C u:_),RelV (.ref C) u->u=Value.ref C:=fun C u z=>z;have RT:∀u,RelV (V.ty "ValueError") u->u=Value.type "ValueError" := fun u z=>z;have X:=Z.xr;refine⟨a,_,_,_,_,_,_,rfl,hE,X,rfl,R _,Z.wM,a,_,_,_,_,_,_,rfl,hE,X,rfl,R _,Z.Ad,a,_,_,_,_,_,_,rfl,hE,X,rfl,R _,Z.wK,(by decide),fun p1 H1 f1 s1 e1=>?_⟩
 refine⟨a,_,_,_,_,_,_,rfl,hE.mono s1,X,rfl,R _,Z.Ac,a,_,_,_,_,_,_,rfl,hE.mono s1,X,rfl,R _,Z.wJ,a,_,_,_,_,_,_,rfl,hE.mono s1,X,rfl,R _,Z.wH,(by decide),fun p2 H2 f2 s2 e2=>Cw.of' (s2 _ _ e1) e2 (by simp) fun p3 H3 f3 s3 e3=>?_⟩
 have HH:=s1.trans (s2.trans s3);refine⟨a,_,_,_,_,_,_,rfl,hE.mono HH,X,rfl,R _,Z.wI,a,_,_,_,_,_,_,rfl,hE.mono HH,X,rfl,R _,Z.Ae,a,_,_,_,_,_,_,rfl,hE.mono HH,X,rfl,R _,Z.wL,(by decide),fun p4 H4 f4 s4 e4=>Cw.of' (s4 _ _ e3) e4 (by simp) fun p5 H5 f5 s5 e5=>?_⟩
 have HF:=HH.trans (s4.trans s5);have e5:H5 p5=some (.lst ([false,false,false,false,false,false,false,false,true].map V.bl)):=e5;refine⟨(by decide),fun p6 H6 f6 s6 e6=>?_⟩
 have zz:=HF.trans s6;have Ko:=s6 _ _ e5;refine⟨a,_,_,_,_,_,_,rfl,hE.mono zz,X,rfl,R _,Z.sG,?_⟩;rw[bj rfl];refine⟨a,_,_,_,_,_,_,rfl,hE.mono zz,X,rfl,RT,Z.Rr,?_⟩;rw[bj rfl];refine⟨.inl ⟨rfl,_,fJ.of Ko⟩,p5,_,rfl,Ko,rfl,?_⟩;have Pk:List.countP id [false,false,false,false,false,false,false,false,true]=1:=by decide
 rw[Pk];refine⟨rfl,_,rfl,?_⟩;rw[bj (by decide)]
 refine⟨.inl ⟨rfl,_,fJ.of Ko⟩,p5,_,8,rfl,Ko,rfl,(by decide),⟨rfl,fun m hm=>?_⟩,?_⟩
 ·have:m=0\/m=1\/m=2\/m=3\/m=4\/m=5\/m=6\/m=7:=by omega
  rcases this with rfl | rfl | rfl | rfl | rfl | rfl | rfl | rfl <;> simp
 ·exact Ix.lst e6 (v:=.str "text") rfl (qq H6 zz)
variable {cj cT cg cR b_ b7 b8 cU az bh:Addr}
theorem wz {H H':Hp} {a:Addr} (h:H a≠none):aH (nw H H') (mz (hid a H')):=fun b o e=>by
 obtain⟨z1,z2,z3⟩:=eY e;have ba:b≠a:=fun z=>h (z▸z1);exact gm rfl (by rw[bx ba]; exact z2) z3
theorem J4 {ds:List PyData} {g:PyData->Bool} (h:∀d∈ds,g d=false):(ds.map g).any id=false:=by
 rw[List.any_map,Bool.eq_false_iff];intro z;obtain⟨d,hd,e⟩:=List.any_eq_true.mp z;rw[show(id∘g) d=g d from rfl,h d hd] at e;cases e
def yf:Sp:=fun vs H Q _=>∃(a:Addr) (n:Nat),vs=[.ref a]/\Tp H a n/\n<=1000/\∀H',SX a H H'->Q (.bl true) H'
theorem nj:aW ["_law_tape_here","_law_post_here","_law_stand_here","_law_turn","_law_odd","_law_small","_law_things","_law_kept","_law_again","_law_row_here","_law_caught"] ["_law_tape_here"] (aF lu):=(by walk_at "c")
theorem v8 (F:iV K "_law_right" "_law_right" lu f fd) (B:Bi mg) (Z:ZM K mg cj cT cg cR b_ b7 b8 cU az bh) (aD:Ct P w K mg base k "_law_draw" ["_law_tape_here","_law_many"] fU) (El:Ct P w K mg base k "_law_post" ["_law_tape_here"] Cd) (Bc:Ct P w K mg base k "_law_stand" ["_law_tape_here"] yd)
  (gq:Ct P w K mg base k "is_post" ["thing"] (dM cL)) (fD:Ct P w K mg base k "is_stand" ["thing"] (dM bK)) (xK:Ct P w K mg base k "_law_made" ["_law_tape_here","_law_deep"] (ig 3)) (xJ:Ct P w K mg base k "_law_made" ["_law_tape_here","_law_deep"] (ig 4)) (vd:Ct P w K mg base k "_law_made" ["_law_tape_here","_law_deep"] (ig 10))
  (mY:Ct P w K mg base k "_law_put" ["_law_tape_here","_law_thing","_law_odd"] (yg 4)) (u_:Ct P w K mg base k "_law_refused" ["_law_caught"] (HD az)) (jf:Ku P w K mg base k az "BadText" ["self","row"] (rm az)) :
  bI P w K mg base gw (k+1) f fd ["_law_tape_here"] yf:=by
 refine F.ok nj (by rintro vs H Q E ⟨a,n,rfl,_⟩; rfl) (fun cdv A outer s H vs Q E hr h=>?_)
 obtain⟨a,n,rfl,tp,hn,q⟩:=h;have ND:=nj.nd;refine⟨_,(au (rE (i:=1) (j:=2) rfl ND rfl rfl (by decide) rfl rfl (aj (pf El hr (aj (pv 0) aa)) (aj (pf Bc hr (aj (pv 0) aa)) aa)) (by rfl)) (au (cO (PW.pt (nR (bz eZ (pf gq hr (aj (pv 1) aa)) cA (aZ _)) (jG (bz eZ (pf fD hr (aj (pv 2) aa)) cA (aZ _))))) (aB (aM cA)) bw) (au (cO (PW.pt (nR (bz eZ (pf gq hr (aj (pv 2) aa)) cA (aZ _)) (jG (bz eZ (pf fD hr (aj (pv 1) aa)) cA (aZ _))))) (aB (aM cA)) bw) (au (lM PassesOwn.never rfl (dz (by rfl) B.range (aj ak aa)) (aV (i:=3) ND rfl (by walk_at "o")) (au (bc (i:=4) ND rfl (by walk_at "o") (zU (pf xJ hr (aj (pv 0) (aj (cZ bT (di (aj ak (aj ak aa))) (pt (je) B.int o9 (aj (cM fQ (pv 3) ak (aZ _)) aa)) (fun _ _=>rfl)) aa))) (pf vd hr (aj (pv 0) (aj (cZ bT (di (aj ak (aj ak aa))) (pt (je) B.int o9 (aj (cM fQ (pv 3) ak (aZ _)) aa)) (fun _ _=>rfl)) aa))))) (au (bc (i:=5) ND rfl (by walk_at "o") (pf xK hr (aj (pv 0) (aj ak aa)))) (au (bc (i:=6) ND rfl (by walk_at "o") (rJ (aj (pv 4) (aj (pf mY hr (aj (pv 0) (aj (pv 1) (aj (pv 5) aa)))) (aj (pf mY hr (aj (pv 0) (aj (pv 2) (aj (pv 5) aa)))) (aj (rJ (aj (pv 1) aa)) (aj (dh (aj (pv 2) aa)) (aj (Gn (Df ak (pv 1) Gh) rfl rfl (by intro z; cases z) (by decide)) aa)))))))) (au (bc (i:=7) ND rfl (by walk_at "o") (pt (qz hr) B.str En (aj (pv 6) aa))) (au (lM PassesOwn.never rfl (dz (by rfl) B.range (aj ak aa)) (aV (i:=8) ND rfl (by walk_at "o")) (aB (cO (bW (pb (Bb rfl) B.any J2 (aj (eX (N':=["_law_thing"]) (js:=[]) rfl (Di (K:=K) rfl (pv 6)) tV.Km rfl (by decide) rfl (fun fp s' H'=>(Lz (cM eZ (pf gq hr (aj (pv 0) aa)) cA (aZ _)) (eQ (cM eZ (pf fD hr (aj (pv 0) aa)) cA (aZ _)))))) aa))) (aB (aM cA)) bw))) (aB (cO (bz HR (pt (qz hr) B.str En (aj (pv 6) aa)) (pv 7) (aZ _)) (aB (aM cA)) bw)))))))) (au (bc (i:=9) ND rfl (by walk_at "o") (pf aD hr (aj (pv 0) (aj (aN iD ak ak) aa)))) (au (bc (i:=10) ND rfl (by walk_at "o") (QQ jf hr (aj (pv 9) aa))) (aB (aM (bQ (cM fQ (pf u_ hr (aj (pv 10) aa)) bO (aZ _)) (bQ (cM fQ (yr (K:=K) rfl Z.xr Z.xs (pv 10)) (pv 9) (aZ _)) (eQ (cM fQ (yr (K:=K) rfl Z.xr Z.xs (QQ jf hr (aj ak aa))) ak (aZ _))))))))))))),?_⟩
 walk_at "rd";refine⟨a,n,rfl,tp,by omega,fun pp x H1 hx a1 t1 s1=>?_⟩
 refine⟨a,_,rfl,t1,by omega,fun ps y H2 hy a2 t2 s2=>?_⟩
 have Qf:=a1.mono s2;have QZ:=Gj hx;have R5:=BX hy;have nx:=QZ.2;have ny:=wA hy;refine⟨_,_,rfl,?_⟩;refine B1.of (Qf.mono cW) fun H3 s3=>?_;rw[QZ.1,bB (by decide)]
 refine B1.of ((a2.mono (SX.of s3)).mono cW) fun H4 s4=>?_;rw[R5,bB (by decide)]
 refine B1.of ((a2.mono (SX.of (s3.trans s4))).mono cW) fun H5 s5=>?_;rw[ph,bB (by decide)]
 refine B1.of ((Qf.mono (SX.of (s3.trans (s4.trans s5)))).mono cW) fun H6 s6=>?_;rw[vU,bB (by decide)]
 have Ng:=s3.trans (s4.trans (s5.trans s6));have t6:=t2.same Ng;rw[jN];walk_at "rd";obtain⟨Pv,hPv⟩:∃Pv:Nat->St->Hp->Prop,∀i σ H',Pv i σ H'↔∃(o3 o4 o5 o6 o7 o8:Option V),σ=[some (.ref a),some (.ref pp),some (.ref ps),o3,o4,o5,o6,o7,o8,none,none]/\Tp H' a (n+460+i*9000)/\SX a H H'/\At (hid a H') (gZ x) (.ref pp)/\At (hid a H') (Br y) (.ref ps):=⟨_,fun _ _ _=>Iff.rfl⟩;refine FK.of (n:=8) rfl (by decide) Pv ((hPv _ _ _).mpr ⟨_,_,_,_,_,_,rfl,t6.mono (by omega),s1.trans (s2.trans (SX.of Ng)),Qf.mono (SX.of Ng),a2.mono (SX.of Ng)⟩) ?_ ?_
 ·intro i σ H7 hi pv;obtain⟨o3,o4,o5,o6,o7,o8,rfl,t7,s7,p7,y7⟩:=(hPv _ _ _).mp pv;have V4:i*9000<=63000:=by omega
  simp only[Lg 15];walk_at "rd";have made:∀R:VK,(∀v d H',Odd d->Wt 10 (mW 10) d->At (mz (hid a H')) d v->Tp H' a (n+460+i*9000+8200)->SX a H7 H'->R v H')->yc (lZ (ig 4) [] E0 (fZ (kY 0) (fZ (Fj zE (x_ (fZ (tC (V.int 4)) (fZ (tC (V.int 10)) uf))) (IV (fun vs H Q=>∃b,vs=[V.bl b]/\Q (V.int (if b=true then 1 else 0)) H) (fZ (Fj Jg (kY 3) (tC (V.int 0))) uf))) uf)))
    (lZ (ig 10) [] E0 (fZ (kY 0) (fZ (Fj zE (x_ (fZ (tC (V.int 4)) (fZ (tC (V.int 10)) uf))) (IV (fun vs H Q=>∃b,vs=[V.bl b]/\Q (V.int (if b=true then 1 else 0)) H) (fZ (Fj Jg (kY 3) (tC (V.int 0))) uf))) uf))) [some (.ref a),some (.ref pp),some (.ref ps),some (.int (0+(i:Nat))),o4,o5,o6,o7,o8,none,none] H7 R:=by
   intro R hR;have ha:∀{G:Hp} {m:Nat},Tp G a m->G a≠none:=fun t z=>by obtain⟨_,_,_,z',_⟩:=t; rw[z'] at z; cases z
   by_cases h0:i=0
   ·refine Or.inr ?_;walk_at "rd";refine⟨(by decide),fun p8 H8 f8 s8 e8=>?_⟩
    subst h0;refine Ix.lst e8 (v:=.int 10) rfl ?_;refine⟨a,_,rfl,by decide,by decide,t7.same s8,by have:=qm (n:=10) (by decide); omega,fun v d H' ho hw hat t' s'=>hR v d H' ho hw (hat.mono (wz (ha (t7.same s8)))) (t'.mono (by have:=qm (n:=10) (by decide); omega)) ((SX.of s8).trans s')⟩
   ·refine Or.inl ?_;walk_at "rd";refine⟨(by decide),fun p8 H8 f8 s8 e8=>?_⟩
    have hd:decide ((0:Int)+(i:Nat)=0)=false:=ji (by omega)
    rw[hd];refine Ix.lst e8 (v:=.int 4) rfl ?_;refine⟨a,_,rfl,by decide,by decide,t7.same s8,by have:=qm (n:=4) (by decide); omega,fun v d H' ho hw hat t' s'=>hR v d H' ho (hw.mono (by decide) (by decide)) (hat.mono (wz (ha (t7.same s8)))) (t'.mono (by have:=qm (n:=4) (by decide); omega)) ((SX.of s8).trans s')⟩
  refine made _ fun vo dd H8 ho wo ao t8 s8=>?_;refine⟨a,_,rfl,by decide,by decide,t8,by have:=qm (n:=3) (by decide); omega,fun vs' dm H9 hm wm am t9 s9=>?_⟩
  have t9':=t9.mono (show _<=n+460+i*9000+8300 by have e:mT 3=61:=rfl; omega)
  have RX:H8 a≠none:=fun z=>by obtain⟨_,_,_,z',_⟩:=t8; rw[z'] at z; cases z
  have Rf:At (mz (hid a H9)) dm vs':=am.mono (wz RX);have QG:=s8.trans s9;unfold Hx;walk_at "rd";refine⟨a,_,_,_,lN x,dm,rfl,by decide,t9',by omega,p7.mono QG,by simp[lN],uC hx,nx.mono (a_ _) (by decide) (a_ _),Rf,fun p1 r1 Il hp1 U_ M_ zA=>?_⟩
  refine⟨a,_,_,_,jy y,dm,rfl,by decide,M_,by omega,y7.mono (QG.trans zA),by simp[jy],qg y,ny.mono (a_ _) (by decide) (by decide),Rf.mono (eG zA),fun p2 r2 M5 hp2 U9 Oh Li=>?_⟩
  refine⟨(by decide),fun p3 Rm Rb s12 JV RV=>?_⟩
  refine⟨(by decide),fun p4 Ka Ra HH MF=>?_⟩
  intro p5 Ny;have QK:=aK Ny (HO.dK []);have Mz:upd Ka p5 (HO.dK []) p5=some (.dK []):=aA;refine⟨Mz,[(Sum.inl 0,.ref pp)],rfl,(show 1<=15 by decide),?_⟩
  rw[qY];have My:upd Ka p5 (HO.dK (iJ [] [(Sum.inl 0,V.ref pp)])) p5=some (.dK [(Sum.inl 0,V.ref pp)]):=aA;have Lh:aH Ka (upd Ka p5 (HO.dK (iJ [] [(Sum.inl 0,V.ref pp)]))):=aK Ny _;generalize upd Ka p5 (HO.dK (iJ [] [(Sum.inl 0,V.ref pp)]))=Vn at My Lh ⊢;refine⟨(by decide),fun pt qM Nx HF HY RP=>?_⟩
  have k13:aH Ka qM:=Lh.trans HF;have k12:aH Rm qM:=HH.trans k13;have k11:aH M5 qM:=s12.trans k12;have x11:SX a M5 qM:=SX.of k11;have x10:SX a Il qM:=Li.trans x11;have x9:SX a H9 qM:=zA.trans x10;have x8:SX a H8 qM:=s9.trans x9;have x7:SX a H7 qM:=s8.trans x8;have up:∀{G:Hp} {d:PyData} {v:V},SX a G qM->At (mz (hid a G)) d v->At (mz qM) d v:=fun {G d v} sx h=>(h.mono (eG sx)).mono (eG cW);have Lx:At (mz qM) (gZ x) (.ref pp):=((p7.mono x7).mono cW).mz (nY _ (uC hx)).2.2;have Ox:At (mz qM) (Br y) (.ref ps):=((y7.mono x7).mono cW).mz (nY _ (qg y)).2.2
  have hA:At (mz qM) (.list [dd,.tuple r1,.tuple r2,.list [gZ x],.tuple [Br y],.dict [(.int 0,gZ x)]]) (.ref pt):=by
   refine At.lst (yx HY RP) (aq.cons (up x8 ao) (aq.cons (up x10 U_) (aq.cons (up x11 U9) (aq.cons (At.lst (yx (k12 _ _ JV) RV) (aq.cons Lx aq.nil)) (aq.cons (At.tup (j9 (k13 _ _ MF)) (aq.cons Ox aq.nil)) (aq.cons ?_ aq.nil))))));unfold At;refine⟨p5,_,rfl,Jx (HF _ _ My),?_⟩;unfold g_;refine⟨_,_,_,rfl,rfl,Lx,?_⟩;unfold g_; rfl
  have Mu:100000000000000<10 ^ 60:=by decide
  have hW:Wt 60 sizeLine (.list [dd,.tuple r1,.tuple r2,.list [gZ x],.tuple [Br y],.dict [(.int 0,gZ x)]]):=by
   have w1:=(CW (wm.mono (a_ _) (show mW 3<=50000 by decide)) hp1 (nx.parts.1)).tup
   have w2:=(CW (wm.mono (a_ _) (show mW 3<=50000 by decide)) hp2 (ny.parts.1)).tup
   have wx:=nx.wt Mu;have wy:=ny.wt Mu;have wl:=(aR.cons wx aR.nil).lst;have wt:=(aR.cons wy aR.nil).tup;have wd:=aR.dct (kvs:=[(PyData.int 0,gZ x)]) (D:=4) (fun p hp=>by rw[lK.mp hp]; exact(bL (b:=0) (by decide)).wt (by decide) |>.mono (fW _) (a_ _)) (aR.cons wx aR.nil)
   have RZ:mW 10=6141985:=rfl;have:=(aR.cons (wo.mono (show 10<=20 by decide) (a_ _)) (aR.cons (w1.mono (show _<=20 by decide) (a_ _)) (aR.cons (w2.mono (show _<=20 by decide) (a_ _)) (aR.cons (wl.mono (show _<=20 by decide) (a_ _)) (aR.cons (wt.mono (show _<=20 by decide) (a_ _)) (aR.cons (wd.mono (show _<=20 by decide) (a_ _)) aR.nil)))))).lst
   exact this.mono (by decide) (by rw[RZ,sizeLine_eq]; simp only[fj,CG]; omega)
  have hno:∀d∈[dd,.tuple r1,.tuple r2,.list [gZ x],.tuple [Br y],PyData.dict [(.int 0,gZ x)]],(cL d || bK d)=false:=by
   intro d hd;have h1:=Dc hm hp1;have h2:=zP hm hy hp2;simp only[jE,uy,or_false] at hd;rcases hd with rfl | rfl | rfl | rfl | rfl | rfl
   ·rw[Dz ho,z9 ho]; rfl
   ·rw[h1.1,h1.2]; rfl
   ·rw[h2.1,h2.2]; rfl
   ·rfl
   ·rfl
   ·rfl
  have R_:[dd,.tuple r1,.tuple r2,.list [gZ x],.tuple [Br y],PyData.dict [(.int 0,gZ x)]].length=6:=rfl;generalize [dd,.tuple r1,.tuple r2,.list [gZ x],.tuple [Br y],PyData.dict [(.int 0,gZ x)]]=D6 at hA hW hno R_;refine⟨_,D6,rfl,hA,hW,?_⟩;have Mr:D6.length<=60000:=by omega
  rw[jN];walk_at "rd";obtain⟨Pw,Nu⟩:∃Pw:Nat->St->Hp->Prop,∀j σ H',Pw j σ H'↔∃(o8:Option V),σ=[some (.ref a),some (.ref pp),some (.ref ps),some (.int (0+(i:Nat))),some vo,some vs',some (.ref pt),some (.str (PyData.list D6).shown),o8,none,none]/\aH qM H':=⟨_,fun _ _ _=>Iff.rfl⟩;refine FK.of (n:=2) rfl (by decide) Pw ((Nu _ _ _).mpr ⟨_,rfl,aH.refl _⟩) ?_ ?_
  ·intro j σ Vm hj pw;obtain⟨o8',rfl,zz⟩:=(Nu _ _ _).mp pw;walk_at "rd"
   obtain⟨qt,Vq,ex,h6,a6⟩:∃p xs,V.ref pt=.ref p/\qM p=some (.lst xs)/\aq qM D6 xs:=by
    have:=hA.N_;unfold At at this;exact this
   cases ex;refine JW (g:=fun d=>cL d || bK d) (fun R hR=>by walk_at "rd"; exact hR) (zz _ _ h6) (a6.mono zz) (dC Mr (by decide)) (fun xx d H' _ hx' R hR=>?_) (fun acc Wi RG hl=>?_)
   ·walk_at "rd";refine B1.of hx' fun jg Oo=>?_;cases hp:cL d with
    | true=>
     have r:=hR jg Oo;simp only[hp,Bool.true_or] at r;exact r
    | false=>
     rw[bB (by decide)]
     refine B1.of (hx'.mono Oo) fun Vl Nh=>?_;have r:=hR Vl (Oo.trans Nh);simp only[hp,Bool.false_or] at r;cases hq:bK d with
     | true=>rw[hq] at r; exact r
     | false=>rw[hq] at r; exact r
   ·refine⟨acc,_,rfl,hl,?_⟩;rw[J4 hno,bB (by decide)]
    exact(Nu _ _ _).mpr ⟨_,rfl,zz.trans RG⟩
  ·intro σ Vm pw;obtain⟨o8',rfl,zz⟩:=(Nu _ _ _).mp pw;walk_at "rd";refine⟨_,D6,rfl,hA.mono (eG zz),hW,?_⟩;rw[bB (by simp)]
   exact(hPv _ _ _).mpr ⟨_,_,_,_,_,_,rfl,((Oh.same k11).same zz).mono (by omega),s7.trans (x7.trans (SX.of zz)),p7.mono (x7.trans (SX.of zz)),y7.mono (x7.trans (SX.of zz))⟩
 ·intro σ H7 pv;obtain⟨o3,o4,o5,o6,o7,o8,rfl,t7,s7,p7,y7⟩:=(hPv _ _ _).mp pv;walk_at "rd";refine⟨⟨by decide,by decide,by decide⟩,cJ.of t7 (by omega) (by decide) (by decide) fun z H8 l8 u8 t8 s8=>?_⟩
  have mk:∀(v:V) (G:Hp) (R:Addr->Hp->Prop),(∀ac G',aH G G'->kJ G' ac az "row" v->R ac G')->∀ac G2,G ac=none->aH G G2->G2 ac=some (Im ac az)->rm az [.ref ac,v] G2 (fun v H3=>v=.non/\R ac H3) E0:=fun v G R hR ac G2 f2 Nh e2=>
   ⟨ac,v,rfl,e2,fun dx h1 h2=>⟨rfl,hR ac _ (fun b o hb=>by
    have b1:b≠ac:=bf hb f2;have b2:b≠dx:=fun z=>by rw[z] at hb; rw[Nh _ _ hb] at h1; cases h1
    rw[aL b1,aL b2]; exact Nh _ _ hb) ⟨dx,aA,by rw[aL h2,aA]⟩⟩⟩
  unfold vG;walk_at "rd";refine⟨by decide,mk _ _ _ fun ac H9 s9 x9=>?_⟩
  refine⟨ac,_,rfl,x9,fun Il zA=>?_⟩;walk_at "rd";unfold Hy;walk_at "rd";rw[bj (by decide)]
  refine⟨ac,_,rfl,x9.mono zA,?_⟩;walk_at "rd";rw[bj (by simp)]
  refine⟨by decide,mk _ _ _ fun ad M5 Li x11=>⟨ad,_,rfl,x11,?_⟩⟩
  walk_at "rd";refine q M5 ?_;exact s7.trans (s8.trans (SX.of (s9.trans (zA.trans Li))))
def yh (K:PySem.W.Frag):Sp:=fun vs H Q _=>∃(p:Addr) (ns:List Int),vs=[.ref p]/\Ez K H p (ns.map V.int)/\ns.length<=63/\∀H',Q (.bl true) H'
theorem Ci:aW ["_law_script","_law_cells"] ["_law_script"] (aF nG):=(by walk_at "c")
theorem Jt (F:iV K "law" "law" nG f fd) (B:Bi mg) (xM:Ct P w K mg base k "_law_folded" ["_law_script","_law_many"] (Ce K)) (Ek:Ct P w K mg base k "_law_tape" ["_law_script","_law_k"] (B_ K)) (Be:Ct P w K mg base k "_law_right" ["_law_tape_here"] yf):bI P w K mg base gw (k+1) f fd ["_law_script"] (yh K):=by
 refine F.ok Ci (by rintro vs H Q E ⟨p,ns,rfl,_⟩; rfl) (fun cdv A outer s H vs Q E hr h=>?_)
 obtain⟨p,ns,rfl,hS,hl,q⟩:=h;have ND:=Ci.nd;refine⟨_,(au (bc (i:=1) ND rfl (by walk_at "o") (pf xM hr (aj (pv 0) (aj ak aa)))) (aB (aM (pb (e_ rfl) B.all lX (aj (eX (N':=["_law_k","_law_cells"]) (js:=[1]) rfl (dz (by rfl) B.range (aj (pb (qC rfl) B.max Eo (aj ak (aj (pb (dY (K:=K) rfl) B.len jK (aj (pv 1) aa)) aa))) aa)) tV.mk1 rfl (by decide) rfl (fun fp s' H'=>(pf Be hr (aj (pf Ek hr (aj (pv 1) (aj (pv 0) aa))) aa)))) aa))))),?_⟩
 walk_at "rd";refine⟨p,ns,rfl,hS,hl,fun pc cs H1 s1 e1 l1=>?_⟩
 obtain⟨n,hn,R8⟩:∃n:Nat,(if(cs.length:Int)>2 then(cs.length:Int) else 2)=(n:Int)/\n<=4:=by
  refine⟨(if(cs.length:Int)>2 then(cs.length:Int) else 2).toNat,?_,?_⟩ <;> (split <;> omega)
 rw[pY];walk_at "rd";refine⟨pc,_,rfl,.inl (fJ.of e1),?_⟩;rw[jh];walk_at "rd";rw[hn];refine CK.of (n:=n) rfl (by omega) fun acc hacc=>?_
 refine⟨fun j zs H'=>zs=(List.replicate j true).map V.bl/\H' acc=some (.lst zs)/\H' pc=some (.lst (cs.map V.int))/\aH H1 H',⟨rfl,aA,by rw[aL (bf e1 hacc)]; exact e1,aK hacc _⟩,?_,?_⟩
 ·rintro j zs H2 hj ⟨rfl,c2,e2,s2⟩;show lZ _ _ _ _ [some _,some (.ref pc)] H2 _;walk_at "rd";refine⟨pc,cs,_,rfl,fJ.of e2,by omega,by omega,fun a H3 f3 s3 t3=>?_⟩
  have na:acc≠a:=bf c2 f3;have Vy:pc≠a:=bf e2 f3;refine⟨a,0,rfl,t3,by decide,fun H4 s4=>?_⟩
  have k4:aH H2 H4:=fun b o hb=>by
   have ba:b≠a:=bf hb f3;exact s4.get ba (s3 _ _ hb)
  refine⟨k4 _ _ c2,by rw[jh,uA]; exact bA (by omega),?_,aA,by rw[aL (bf e1 hacc)]; exact k4 _ _ e2,(s2.trans k4).dD hacc⟩
  rw[List.map_replicate,<- List.replicate_succ,List.replicate_succ']
 ·rintro zs H2 ⟨rfl,c2,e2,s2⟩;refine⟨acc,_,rfl,c2,?_⟩;have:(List.replicate n true).all id=true:=by simp
  rw[this];exact q H2
end
theorem Oa {us:List Value} {n:Nat} (h:us.length=n+1):∃a r,us=a::r/\r.length=n:=by
 cases us with
 | nil=>cases h
 | cons a r=>exact⟨a,r,rfl,Nat.succ.inj h⟩
theorem xX {us:List Value} (h:us.length=1):∃a,us=[a]:=by
 obtain⟨a,r,rfl,g⟩:=Oa h;cases List.length_eq_zero_iff.mp g;exact⟨a,rfl⟩
theorem Bq {us:List Value} (h:us.length=2):∃a a0,us=[a,a0]:=by
 obtain⟨a,r,rfl,g⟩:=Oa h;obtain⟨a0,rfl⟩:=xX g;exact⟨a,a0,rfl⟩
theorem Qu {us:List Value} (h:us.length=3):∃a a0 a1,us=[a,a0,a1]:=by
 obtain⟨a,r,rfl,g⟩:=Oa h;obtain⟨a0,a1,rfl⟩:=Bq g;exact⟨a,a0,a1,rfl⟩
theorem all_mk {l:PySem.W.OpenLaw} {w:World} {K:PySem.W.Frag} {h:Heap} {mg:Str->Option Value} {fa:Addr} (X:K.In h) (G:h.Ns mainGlobals mg) (hfa:mg "law" = some (.ref fa))
  {f0:Addr} (e0:jM K "is_whole" jA f0)
  {f1:Addr} (e1:jM K "is_from" lC f1)
  {f2:Addr} (e2:jM K "is_between" gB f2)
  {f3:Addr} (e3:jM K "is_tuple_of" fV f3)
  {f4:Addr} (e4:jM K "is_post" lB f4)
  {f5:Addr} (e5:jM K "are_bounds_of_hands" cG f5)
  {f6:Addr} (e6:jM K "are_rests" iy f6)
  {f7:Addr} (e7:jM K "are_rules" iw f7)
  {f8:Addr} (e8:jM K "is_rule" lA f8)
  {f9:Addr} (e9:jM K "is_row" nO f9)
  {Pq:Addr} (e10:jM K "is_stand" jB Pq)
  {f11:Addr} (Qd:jM K "are_hands" iz f11)
  {Rb:Addr} (JV:jM K "are_counts" gC Rb)
  {Ra:Addr} (MF:jM K "_law_tape" nH Ra)
  {Ny:Addr} (Mz:jM K "_law_draw" nM Ny)
  {Nx:Addr} (HY:jM K "_law_folded" jz Nx)
  {S7:Addr} (Qa:jM K "_law_units" lg S7)
  {S6:Addr} (P_:jM K "_law_row" rz S6)
  {S5:Addr} (P0:jM K "_law_rules" lr S5)
  {SQ:Addr} (PQ:jM K "_law_post" nJ SQ)
  {SN:Addr} (PN:jM K "_law_stand" lq SN)
  {SM:Addr} (PL:jM K "_law_refused" iu SM)
  {SJ:Addr} (PK:jM K "_law_made" jV SJ)
  {Sy:Addr} (PB:jM K "_law_put" mR Sy)
  {Sx:Addr} (Pz:jM K "_law_right" lu Sx)
  {Sw:Addr} (Py:jM K "law" nG Sw)
  {cj:Addr} (yZ:PySem.W.nsIn K mainGlobals "BadLoad" = some (some (.ref cj)))
  {cT:Addr} (Bv:PySem.W.nsIn K mainGlobals "Beyond" = some (some (.ref cT)))
  {cg:Addr} (yX:PySem.W.nsIn K mainGlobals "BadYard" = some (some (.ref cg)))
  {cR:Addr} (Bu:PySem.W.nsIn K mainGlobals "NoName" = some (some (.ref cR)))
  {b_:Addr} (yW:PySem.W.nsIn K mainGlobals "TooLong" = some (some (.ref b_)))
  {b7:Addr} (yU:PySem.W.nsIn K mainGlobals "TooWide" = some (some (.ref b7)))
  {b8:Addr} (yV:PySem.W.nsIn K mainGlobals "TooMany" = some (some (.ref b8)))
  {cU:Addr} (Bw:PySem.W.nsIn K mainGlobals "BadAsk" = some (some (.ref cU)))
  {az:Addr} (pR:PySem.W.nsIn K mainGlobals "BadText" = some (some (.ref az)))
  {bh:Addr} (t_:PySem.W.nsIn K mainGlobals "HandError" = some (some (.ref bh)))
  (qW:PySem.W.kitOne K (.ref az) (.ref cj)=some false)
  (tY:PySem.W.kitOne K (.ref az) (.ref cT)=some false)
  (qT:PySem.W.kitOne K (.ref az) (.ref cg)=some false)
  (tX:PySem.W.kitOne K (.ref az) (.ref cR)=some false)
  (qR:PySem.W.kitOne K (.ref az) (.ref b_)=some false)
  (qP:PySem.W.kitOne K (.ref az) (.ref b7)=some false)
  (qQ:PySem.W.kitOne K (.ref az) (.ref b8)=some false)
  (tZ:PySem.W.kitOne K (.ref az) (.ref cU)=some false)
  (qU:PySem.W.kitOne K (.ref az) (.ref az)=some true)
  (m5:PySem.W.kitOne K (.ref az) (.ref bh)=some true)
  (KQ:PySem.W.kitOne K (.ref az) (.type "ValueError")=some true)
  (wZ:PySem.W.findIn K (.ref az) "__getattribute__" = some (some (.builtin "BaseException.__getattribute__")))
  (wY:PySem.W.findIn K (.ref az) "__getattr__" = some none)
  (wX:PySem.W.findIn K (.ref az) "__class__" = some (some (.builtin "object.__class__")))
  (wU:PySem.W.hasDictIn K az=true)
  (wW:PySem.W.subIn K (.ref az) (.type "BaseException")=some true)
  (wV:PySem.W.mroIn K az (.type "object")=some true)
  {oO:Addr} (jw:Kc K az bh oO "row")
  (wR:N7 K "__init__" "BadText.__init__" bU oO)
  (Rq:PySem.W.specialIn K (.builtin "object.__class__") "__get__" = some (some (.builtin "getset_descriptor.__get__")))
  (Rp:PySem.W.takesIn K (.builtin "object.__class__")=some true)
  (qN:Nb K "isinstance")
  (KD:Nb K "int")
  (Ir:Nb K "bool")
  (Fb:Nb K "tuple")
  (KC:Nb K "len")
  (KJ:Nb K "all")
  (Kv:Nb K "sum")
  (KN:Nb K "abs")
  (Io:Nb K "list")
  (tW:Nb K "enumerate")
  (Kz:Nb K "max")
  (Fd:Nb K "range")
  (Ky:Nb K "min")
  (qO:Nb K "ValueError")
  (Ip:Nb K "dict")
  (Kw:Nb K "str")
  (KH:Nb K "any")
  {BL BK BJ:Tok} (GD:NT K "WHATS" [.str "come" BL,.str "done" BK,.str "wait" BJ])
  (Jz:vp K "OVER" "over")
  (GF:vp K "UNDER" "under")
  (JB:vp K "EACH" "each")
  (rT:Ni K "MOST_UNITS" 1000000000000)
  (rZ:Ni K "MOST_HANDS" 12)
  (uM:Ni K "MOST_PACE" 1000000)
  (uN:Ni K "MOST_LATE" 4)
  (sr:Ni K "MOST_EVERY" 6)
  (uL:Ni K "MOST_REST" 9)
  (rY:Ni K "MOST_RULES" 3)
  (uK:Ni K "MOST_ROWS" 4)
  (uJ:Ni K "MOST_SPAN" 4)
  (mK:Ni K "PLACES_CALLED" 5)
  (rW:Ni K "MOST_SINCE" 5)
  (oF:Ni K "TRIPLES_SEEN" 3) :
  ∃fd:FuncData,(∀(s:Shared) (v:Value),BindsTo s fd ⟨[v],[]⟩ [("_law_script",v)])/\∀base:Heap,K.In base->base.Ns mainGlobals mg->bI l.prog w K mg base gw 13 fa fd ["_law_script"] (yh K):=by
 obtain⟨h0⟩:=e0.has X G (ps:=["thing"]) fun _ _ _ _ _ _ us hl=>by obtain⟨_,rfl⟩:=xX hl; rfl
 obtain⟨h1⟩:=e1.has X G (ps:=["thing","least"]) fun _ _ _ _ _ _ us hl=>by obtain⟨_,_,rfl⟩:=Bq hl; rfl
 obtain⟨h2⟩:=e2.has X G (ps:=["thing","least","most"]) fun _ _ _ _ _ _ us hl=>by obtain⟨_,_,_,rfl⟩:=Qu hl; rfl
 obtain⟨h3⟩:=e3.has X G (ps:=["thing","many"]) fun _ _ _ _ _ _ us hl=>by obtain⟨_,_,rfl⟩:=Bq hl; rfl
 obtain⟨h4⟩:=e4.has X G (ps:=["thing"]) fun _ _ _ _ _ _ us hl=>by obtain⟨_,rfl⟩:=xX hl; rfl
 obtain⟨h5⟩:=e5.has X G (ps:=["thing"]) fun _ _ _ _ _ _ us hl=>by obtain⟨_,rfl⟩:=xX hl; rfl
 obtain⟨h6⟩:=e6.has X G (ps:=["thing"]) fun _ _ _ _ _ _ us hl=>by obtain⟨_,rfl⟩:=xX hl; rfl
 obtain⟨h7⟩:=e7.has X G (ps:=["thing"]) fun _ _ _ _ _ _ us hl=>by obtain⟨_,rfl⟩:=xX hl; rfl
 obtain⟨h8⟩:=e8.has X G (ps:=["thing"]) fun _ _ _ _ _ _ us hl=>by obtain⟨_,rfl⟩:=xX hl; rfl
 obtain⟨h9⟩:=e9.has X G (ps:=["thing"]) fun _ _ _ _ _ _ us hl=>by obtain⟨_,rfl⟩:=xX hl; rfl
 obtain⟨h10⟩:=e10.has X G (ps:=["thing"]) fun _ _ _ _ _ _ us hl=>by obtain⟨_,rfl⟩:=xX hl; rfl
 obtain⟨h11⟩:=Qd.has X G (ps:=["ready","called"]) fun _ _ _ _ _ _ us hl=>by obtain⟨_,_,rfl⟩:=Bq hl; rfl
 obtain⟨h12⟩:=JV.has X G (ps:=["thing","many"]) fun _ _ _ _ _ _ us hl=>by obtain⟨_,_,rfl⟩:=Bq hl; rfl
 obtain⟨h13⟩:=MF.has X G (ps:=["_law_script","_law_k"]) fun _ _ _ _ _ _ us hl=>by obtain⟨_,_,rfl⟩:=Bq hl; rfl
 obtain⟨h14⟩:=Mz.has X G (ps:=["_law_tape_here","_law_many"]) fun _ _ _ _ _ _ us hl=>by obtain⟨_,_,rfl⟩:=Bq hl; rfl
 obtain⟨h15⟩:=HY.has X G (ps:=["_law_script","_law_many"]) fun _ _ _ _ _ _ us hl=>by obtain⟨_,_,rfl⟩:=Bq hl; rfl
 obtain⟨Q8⟩:=Qa.has X G (ps:=["_law_tape_here"]) fun _ _ _ _ _ _ us hl=>by obtain⟨_,rfl⟩:=xX hl; rfl
 obtain⟨Q7⟩:=P_.has X G (ps:=["_law_tape_here","_law_small"]) fun _ _ _ _ _ _ us hl=>by obtain⟨_,_,rfl⟩:=Bq hl; rfl
 obtain⟨h18⟩:=P0.has X G (ps:=["_law_tape_here","_law_small"]) fun _ _ _ _ _ _ us hl=>by obtain⟨_,_,rfl⟩:=Bq hl; rfl
 obtain⟨Q6⟩:=PQ.has X G (ps:=["_law_tape_here"]) fun _ _ _ _ _ _ us hl=>by obtain⟨_,rfl⟩:=xX hl; rfl
 obtain⟨Q5⟩:=PN.has X G (ps:=["_law_tape_here"]) fun _ _ _ _ _ _ us hl=>by obtain⟨_,rfl⟩:=xX hl; rfl
 obtain⟨h21⟩:=PL.has X G (ps:=["_law_caught"]) fun _ _ _ _ _ _ us hl=>by obtain⟨_,rfl⟩:=xX hl; rfl
 obtain⟨h22⟩:=PK.has X G (ps:=["_law_tape_here","_law_deep"]) fun _ _ _ _ _ _ us hl=>by obtain⟨_,_,rfl⟩:=Bq hl; rfl
 obtain⟨Ew⟩:=PB.has X G (ps:=["_law_tape_here","_law_thing","_law_odd"]) fun _ _ _ _ _ _ us hl=>by obtain⟨_,_,_,rfl⟩:=Qu hl; rfl
 obtain⟨Q4⟩:=Pz.has X G (ps:=["_law_tape_here"]) fun _ _ _ _ _ _ us hl=>by obtain⟨_,rfl⟩:=xX hl; rfl
 have B:Bi mg:=⟨PySem.W.mg_none_of X G qN,PySem.W.mg_none_of X G KD,PySem.W.mg_none_of X G Ir,PySem.W.mg_none_of X G Fb,PySem.W.mg_none_of X G KC,PySem.W.mg_none_of X G KJ,PySem.W.mg_none_of X G Kv,PySem.W.mg_none_of X G KN,PySem.W.mg_none_of X G Io,PySem.W.mg_none_of X G tW,PySem.W.mg_none_of X G Kz,PySem.W.mg_none_of X G Fd,PySem.W.mg_none_of X G Ky,PySem.W.mg_none_of X G qO,PySem.W.mg_none_of X G Ip,PySem.W.mg_none_of X G Kw,PySem.W.mg_none_of X G KH⟩;have O:Co K mg:=⟨(let ⟨a,n,_,z,m⟩:=GD; ⟨a,PySem.W.mg_of X G z,⟨_,m,rfl,rfl⟩,fun H=>.inr ⟨_,_,n,m,rfl,rfl,(by show 3<=sizeLine; decide),(.cons ⟨_,rfl⟩ (.cons ⟨_,rfl⟩ (.cons ⟨_,rfl⟩ .nil)))⟩⟩),Jz.gs X G,GF.gs X G,JB.gs X G,rT.gi X G,rZ.gi X G,uM.gi X G,uN.gi X G,sr.gi X G,uL.gi X G,rY.gi X G,uK.gi X G,uJ.gi X G,mK.gi X G,rW.gi X G,oF.gi X G⟩
 have vA:=Hj.of wZ wY wX Rq Rp wU wW wV;have Y:ZM K mg cj cT cg cR b_ b7 b8 cU az bh:=⟨PySem.W.mg_of X G yZ,PySem.W.mg_of X G Bv,PySem.W.mg_of X G yX,PySem.W.mg_of X G Bu,PySem.W.mg_of X G yW,PySem.W.mg_of X G yU,PySem.W.mg_of X G yV,PySem.W.mg_of X G Bw,PySem.W.mg_of X G pR,PySem.W.mg_of X G t_,qW,tY,qT,tX,qR,qP,qQ,tZ,qU,m5,KQ,vA,jw.s⟩;obtain⟨oc,od,an,sl,kV,dc,pm,cd,ct,ea,el,ec,S9⟩:=Py;have e:=hfa.symm.trans (PySem.W.mg_of X G ea);cases e;refine⟨PySem.W.fnOf "law" "law" (dI nG) (dq nG) (aF nG) .none kV dc pm an cd ct,fun s v=>.of_eq rfl,fun base _ _=>?_⟩;have F:=wO (st:=nG) el ec S9;obtain⟨io,VL,V0,VH,VM,VN,VJ,VR,VP,il,ic,ik⟩:=wR;have FI:=wO (st:=bU) il ic ik;have jf:Ku l.prog w K mg base 2 az "BadText" ["self","row"] (rm az):=⟨_,_,1,by decide,_,_,iH (k:=0) FI jw.s,jw,FI.binds fun _ _ _ _ _ _ us hl=>by obtain⟨_,_,rfl⟩:=Bq hl; rfl,PySem.W.mg_of X G pR⟩
 have pO:=h15.ct l.prog w base (uF (k:=0) h15.F B);have vf:=h13.ct l.prog w base (zX (k:=0) h13.F B);have aP:=h14.ct l.prog w base (z6 (k:=0) h14.F B);have gO:=Q8.ct l.prog w base (vY (k:=1) Q8.F B (aP.mono (by decide)))
 have xN:=Q7.ct l.prog w base (Dv (k:=2) Q7.F B (aP.mono (by decide)) (gO.mono (by decide)))
 have sY:=h18.ct l.prog w base (v7 (k:=3) h18.F B (aP.mono (by decide)) (xN.mono (by decide)))
 have vg:=Q6.ct l.prog w base (zZ (k:=4) Q6.F B (aP.mono (by decide)) (gO.mono (by decide)) (sY.mono (by decide)))
 have sX:=Q5.ct l.prog w base (vZ (k:=2) Q5.F B (aP.mono (by decide)) (gO.mono (by decide)))
 have aJ:=h3.ct l.prog w base (n8 (k:=0) h3.F B);have dZ:=h0.ct l.prog w base (uG (k:=0) h0.F B);have aG:=h2.ct l.prog w base (pC (k:=1) h2.F (dZ.mono (by decide)))
 have cI:=h5.ct l.prog w base (gH (k:=2) h5.F O (aJ.mono (by decide)) (aG.mono (by decide)))
 have iT:=h6.ct l.prog w base (rO (k:=2) h6.F B O (aJ.mono (by decide)) (aG.mono (by decide)))
 have oX:=h9.ct l.prog w base (z7 (k:=2) h9.F O (aJ.mono (by decide)) (aG.mono (by decide)))
 have lW:=h8.ct l.prog w base (v_ (k:=3) h8.F B O (oX.mono (by decide)))
 have iR:=h7.ct l.prog w base (rN (k:=4) h7.F B O (lW.mono (by decide)))
 have gq:=h4.ct l.prog w base (wg (k:=5) h4.F O (aJ.mono (by decide)) (aG.mono (by decide)) (cI.mono (by decide)) (iT.mono (by decide)) (iR.mono (by decide)))
 have cX:=h1.ct l.prog w base (wj (k:=1) h1.F (dZ.mono (by decide)))
 have cY:=h12.ct l.prog w base (pD (k:=2) h12.F B (aJ.mono (by decide)) (cX.mono (by decide)))
 have iU:=h11.ct l.prog w base (rP (k:=3) h11.F B O (cX.mono (by decide)) (cY.mono (by decide)))
 have fD:=h10.ct l.prog w base (uH (k:=4) h10.F B O (aJ.mono (by decide)) (cX.mono (by decide)) (aG.mono (by decide)) (iU.mono (by decide)) (cY.mono (by decide)))
 have pN:=h22.ct l.prog w base (v9 (k:=0) h22.F);have pM:=h22.ct l.prog w base (cF (k:=1) 0 h22.F B (aP.mono (by decide)) (pN.mono (by decide)))
 have pL:=h22.ct l.prog w base (cF (k:=2) 1 h22.F B (aP.mono (by decide)) (pM.mono (by decide)))
 have ju:=h22.ct l.prog w base (cF (k:=3) 2 h22.F B (aP.mono (by decide)) (pL.mono (by decide)))
 have jt:=h22.ct l.prog w base (cF (k:=4) 3 h22.F B (aP.mono (by decide)) (ju.mono (by decide)))
 have pK:=h22.ct l.prog w base (cF (k:=5) 4 h22.F B (aP.mono (by decide)) (jt.mono (by decide)))
 have pJ:=h22.ct l.prog w base (cF (k:=6) 5 h22.F B (aP.mono (by decide)) (pK.mono (by decide)))
 have pI:=h22.ct l.prog w base (cF (k:=7) 6 h22.F B (aP.mono (by decide)) (pJ.mono (by decide)))
 have pH:=h22.ct l.prog w base (cF (k:=8) 7 h22.F B (aP.mono (by decide)) (pI.mono (by decide)))
 have pG:=h22.ct l.prog w base (cF (k:=9) 8 h22.F B (aP.mono (by decide)) (pH.mono (by decide)))
 have oZ:=h22.ct l.prog w base (cF (k:=10) 9 h22.F B (aP.mono (by decide)) (pG.mono (by decide)))
 have tH:=Ew.ct l.prog w base (zY (k:=0) Ew.F);have tG:=Ew.ct l.prog w base (j8 (k:=1) 0 Ew.F B (aP.mono (by decide)) (tH.mono (by decide)))
 have tE:=Ew.ct l.prog w base (j8 (k:=2) 1 Ew.F B (aP.mono (by decide)) (tG.mono (by decide)))
 have tD:=Ew.ct l.prog w base (j8 (k:=3) 2 Ew.F B (aP.mono (by decide)) (tE.mono (by decide)))
 have tu:=Ew.ct l.prog w base (j8 (k:=4) 3 Ew.F B (aP.mono (by decide)) (tD.mono (by decide)))
 have oY:=h21.ct l.prog w base (rM (k:=0) h21.F B Y);have sZ:=Q4.ct l.prog w base (v8 (k:=11) Q4.F B Y (aP.mono (by decide)) (vg.mono (by decide)) (sX.mono (by decide)) (gq.mono (by decide)) (fD.mono (by decide)) (ju.mono (by decide)) (jt.mono (by decide)) (oZ.mono (by decide)) (tu.mono (by decide)) (oY.mono (by decide)) (jf.mono (by decide)))
 exact Jt (k:=12) F B (pO.mono (by decide)) (vf.mono (by decide)) (sZ.mono (by decide))
theorem walk {l:PySem.W.OpenLaw} {q:Program} {loose:List Str} {XP:(Str->Option Value)->Heap->Prop} {YP:World->Heap->Prop} {d:DefRec} {K:Params->PySem.W.Frag} (hn:l.most=some 63) (hdf:d.params.defaults=[])
  (hY:∀(w:World) (h:Heap),YP w h->(K w.params).In h)
  (F:∀(w:World) (mg:Str->Option Value) (fa:Addr) (h:Heap),(K w.params).In h->h.Ns mainGlobals mg->mg d.name=some (.ref fa) ->
   ∃fd:FuncData,(∀(s:Shared) (u:Value),BindsTo s fd ⟨[u],[]⟩ [("_law_script",u)])/\∀base:Heap,(K w.params).In base->base.Ns mainGlobals mg->bI l.prog w (K w.params) mg base gw 13 fa fd ["_law_script"] (yh (K w.params))) :
  PySem.W.WalkO q loose XP YP l.row.toRowW d [] (fun f vs=>PySem.call f vs):=
 L2.Ff (n:=63) (k:=13) (x:="_law_script") (CX:=fun _=>gw) (sp:=fun w=>yh (K w.params)) hn (by decide) hdf ⟨rfl,by decide,by decide,rfl⟩ hY F (fun _ _ a ns hl hO hS=>⟨a,ns,rfl,Ez.of hS hO,hl,fun _=>rfl⟩) fun _ _ _ _ _ z=>z
end Qm
structure PySem.W.Fast:Prop where(tw10385115895216846826 tw3429386110507230994 tw17182828540546261004 tw1290628566895473421 tw5784535809731217054 tw6654290975923243992 tw8368760176321067264 tw483173146691659989 tw13230528218875886379 tw11650342293485078245 tw10760688507593029919 tw2812164473541060433 tw679403664403783823 tw8176487211561306597 tw11826944616927519762 tw10227187785644281194 tw12590563251652259832 tw2185651038432324939 tw363693185462051871 tw11139045517777655575 tw3670653783764003542 tw8592636863609392345 tw5822589981079471323 tw11472790036838566664 tw3945053541881189613 tw15455179202873662062 tw8440115755460681499 tw10237606245094832709 tw1136023344275288278 tw2863619121412882344 tw2978730603884974678 tw14916777354915229899 tw10810889755412631021 tw3775515872821151621 tw6897139162883031709 tw5020158487401882481 tw9759602929822277311 tw4255383099324155871 tw16487464920227723086 tw11566413487484464508 tw8414616353180013629 tw11685028217517711533 tw9811280537624871675 tw6804396875677166936 tw2222670550785924564 tw6145844101091540281 tw12048398483060425235 tw854070530480948502 tw5118960836279772939 tw13325102925659746310 tw18249573614703271517 tw9798654113161819104 tw10657456745563456438 tw8657050281819769870 tw9658637307664843915 tw715623344874010550 tw14472719732947745436 tw17473761569116048449 tw13963603152013739750 tw1917172481824351991 tw11922368687552953353 tw1994910342923762914 tw17592460522998417154 tw13228448460768157636 tw15881225343678957846 tw2586541538037025660 tw15110580452225621396 tw11228345515242364773 tw3050707476314538533 tw7090031059615181707 tw5815243192317951505 tw2452258153591822620 tw15696457762039062933 tw1998292448743305622 tw9215734663501531979 tw14385072353337662452 tw9367835845643376812 tw13953990017012784382 tw14757733832916002503 tw18083333067018667899 tw6001484195851838509 tw18403203853448601042 tw9088452711180432525 tw11262074739530925666 tw1849688638327759919 tw12432514668996027620 tw4953923454978496007 tw16562784004773501667 tw2223521729960885207 tw5733440449900072118 tw3757993939500590014 tw4985789748534861408 tw18072696500642281320 tw9966039738456877780 tw2227916912215395649 tw1499241398771621460 tw7504411710112340446 tw5926663913747305914 tw7343766290022238904 tw10481741719283104838 tw15566704460009870235 tw99685488102242360 tw14033818585292412363 tw3450201332401853934 tw14799208132341696543 tw15062348215463885009 tw829658780447357287 tw17123321337419521639 tw376177528291316664 tw8860129970019456745 tw4956127654602320072 tw13217017951508777047 tw3615929731742118166 tw9684073063636063689 tw6657052321573483525 tw14533012080632765254 tw12785984739391905616 tw2206907502376323126 tw11835777804937200320 tw1454369731732346198 tw7292089024076899022 tw5950757664238874536 tw2239548839944372064 tw7422830555009293096 tw3539278036451342754 tw3139513806738097823 tw1520050024430386086 tw2433906052887717519 tw4966793151033943929 tw1719308670320382144 tw15688108009605278348 tw15811470882970402396 tw11510506705442776011 tw5095221798516064453 tw15907961769153237287 tw4298729746433680042 tw7523983993835006836 tw6688218788482741813 tw1410130000406185933 tw287810699401347822 tw17658970175963241137 tw14642449617621708967 tw10952623413921527591 tw11362451113623502849 tw15921077671993335693 tw8724838463306922564 tw3137015668216276161 tw12640473553581509433 tw423679550275734900 tw12978245497587229072 tw18162086472535349026 tw10077181052791836139 tw9087777159660047612 tw2277793700250705811 tw2217527785992497059 tw8885947045829281614 tw12567026471819744070 tw1357398768664145237 tw15144066636542264603 tw12553185503882989916 tw14129013737771158744 tw16230906947495555683 tw17932205270682805859 tw17386304024550358933 tw6791502870830493631 tw3759334775443090639 tw14145374211675026372 tw2039604809258331458 tw2737067797155845227 tw13487275989050333207 tw13515667302164676136 tw15152777987550928234 tw8254518252598595699 tw6138441960572712677 tw2784383589600475045 tw621993415641646041 tw2205116966832614370 tw12033341990096760404 tw1107744770775907885 tw6089376301662679704 tw4382943767217303591 tw6703497312223712143 tw12903455286497129133 tw5179415547912508789 tw8994976480882227151 tw16266321004235281948 tw5677341461329616356 tw6285088844332183793 tw1067663312742721896 tw8979069483816471339 tw18442075338614291180 tw3263274726487520310 tw12114773686481758792 tw4271731586267988197 tw17870193946575467666 tw11075639832799809307 tw6533752596930817678 tw544221757099071242 tw5059011290278170893 tw11377338515240840727 tw13174936147105021204 tw15860810804209704316 tw3417292062218922307 tw11002169645547118291 tw12457117510604263848 tw12359394943804700342 tw15777244057462589986 tw153639624772119549 tw14749419501969960175 tw6492302076470319332 tw7429407763411334391 tw17546522388804199054 tw1898919867805922907 tw932049788216571688 tw7218797945574450344 tw7283618240871193148 tw11159158051092462759 tw477115075417297357 tw9729290838039890999 tw5693864869711017411 tw7951660444621486686 tw10997393291934631880 tw7166808614116146273 tw11017668661888982717 tw1750614961482684597 tw6336491606941245873 tw1082767528643432519 tw3523411336211070388 tw7938125577982625058 tw459731405507584009 tw10014685696775090564 tw12624692726722206177 tw16215212225244069968 tw16686419875832642578 tw11930384350364593900 tw3874163842033500975 tw2063880666560787684 tw16457219133134657993 tw576420516547048022 tw7425956862251229025 tw16183513384480530803 tw10605634908703549416 tw16395454630820235224 tw17164970307521164243 tw911112486278676553 tw16342066508530843670 tw17813905859407825472 tw12165326637787359269 tw1189882989112386338 tw17077644157948660061 tw5501458245904221310 tw17314831117351872009 tw107026980336774843 tw12362501326197345264 tw4879166734325482015 tw2397150331646991725 tw7428591338474994100 tw17556857616787668917 tw13675588847705246227 tw13621243608297165099 tw7807866578714036520 tw4011627240253660272 tw5121605042810035323 tw812331790882787392 tw17078593141076990211 tw13963128297419286491 tw4914073168389661024 tw14032144345899134437 tw17182982697961275203 tw14836312904715799970 tw4691844833414071185 tw4059030362433128405 tw9163218882805300834 tw14899454500167619766 tw4240304422801371032 tw15530320595438083673 tw6063044485886245455 tw1873582862397669896 tw9575740035881857338 tw10351743904482339942 tw3036162603924446607 tw5864394711410080546 tw4324117139390634560 tw12351868413488027240 tw16134688470935997671 tw3933143699011348607 tw17631267786504234472 tw681134517279931606 tw14937062626761407659 tw9889312666026278003 tw4750944996120735226 tw2596250555841991686 tw13972883146225744212 tw1014158350633511412 tw7759813222958009543 tw7628333730654972193 tw17597322248757930939 tw551231464125000548 tw13278142527251941645 tw3651112215270628607 tw2890914155929806 tw8517075451965086280 tw8963555418932894 tw15538066921254779205 tw1131293396114050566 tw3025544729170366563 tw17823648617762281303 tw7940642355424769714 tw15423463888007061323 tw16906093543693904841:True)
open PySem PySem.W PyProof.Rows
local macro_rules | `(tactic| walk_at "fm")=>`(tactic| (refine' L2.N7.mk ?a ?b ?c; (case a=>k_is); (case b=>k_is); (case c=>k_is)))
local macro_rules | `(tactic| walk_at "fn")=>`(tactic| (refine' L2.jM.mk ?a ?b ?c ?d; (case a=>k_is); (case b=>k_is); (case c=>k_is); (case d=>k_is)))
local macro_rules | `(tactic| walk_at "nb")=>`(tactic| (unfold L2.Nb; k_is))
local macro_rules | `(tactic| walk_at "ni")=>`(tactic| (refine' L2.Ni.mk ?a; (case a=>k_is)))
local macro_rules | `(tactic| walk_at "ns")=>`(tactic| (refine' L2.vp.mk ?a; (case a=>k_is)))
local macro_rules | `(tactic| walk_at "nt")=>`(tactic| (refine' L2.NT.mk ?a ?b; (case a=>k_is); (case b=>k_is)))
local macro_rules | `(tactic| walk_at "xm")=>`(tactic| (refine' L2.Kc.of ?a ?b ?c ?d ?e ?f ?g ?h ?i ?j; (case a=>k_is); (case b=>k_exc); (case c=>k_is); (case d=>k_is); (case e=>k_is); (case f=>k_is); (case g=>kernel_rfl); (case h=>k_is); (case i=>k_is); (case j=>k_is)))
set_option maxRecDepth 100000 in
set_option maxHeartbeats 0 in
theorem PySem.Challenge.cw_waithands_k97_whole_things_of_any_make_holds : PySem.Challenge.rw_waithands_k97_whole_things_of_any_make.Holds := by
 w_on; o_law; k_head; (case hw=>w_witness2)
 k_fill
 refine Qm.walk (l:=PySem.Challenge.rw_waithands_k97_whole_things_of_any_make) rfl rfl (fun w h Y=>PySem.W.kIn_of Y) ?F
 case F=>
  intro w mg fa h KX G hmg;refine' Qm.all_mk KX G hmg ?e0 ?e1 ?e2 ?e3 ?e4 ?e5 ?e6 ?e7 ?e8 ?e9 ?e10 ?Qd ?JV ?MF ?Mz ?HY ?Qa ?P_ ?P0 ?PQ ?PN ?PL ?PK ?PB ?Pz ?Py ?U6 ?U5 ?U4 ?U3 ?U0 ?UW ?UT ?UL ?UJ ?UG ?Uz ?Uy ?Ux ?Uw ?Uv ?Uu ?Ut ?Us ?Ur ?Uq ?Up ?Uo ?Um ?Ul ?Uk ?Uj ?Ui ?Uh ?Ug ?Ue ?Ko ?Ud ?Uc ?Ub ?Ua ?T_ ?T9 ?T8 ?T7 ?T6 ?T5 ?T4 ?T3 ?TY ?TV ?TQ ?TF ?Tz ?Tw ?Tv ?Tu ?Tt ?Tr ?Tq ?Tn ?Tj ?Ti ?Th ?Tg ?Tf ?Te ?Td ?Tc ?S_
  case e0 | e1 | e2 | e3 | e4 | e5 | e6 | e7 | e8 | e9 | e10 | Qd | JV | MF | Mz | HY | Qa | P_ | P0 | PQ | PN | PL | PK | PB | Pz | Py=>walk_at "fn"
  case U6 | U5 | U4 | U3 | U0 | UW | UT | UL | UJ | UG=>k_is
  case Uz | Uy | Ux | Uw | Uv | Uu | Ut | Us | Ur | Uq | Up=>kit_is
  case Uo | Um | Ul | Uk | Uj | Ui=>k_is
  case Uh=>walk_at "xm"
  case Ug=>walk_at "fm"
  case Ue | Ko=>k_is
  case Ud | Uc | Ub | Ua | T_ | T9 | T8 | T7 | T6 | T5 | T4 | T3 | TY | TV | TQ | TF | Tz=>walk_at "nb"
  case Tw=>walk_at "nt"
  case Tv | Tu | Tt=>walk_at "ns"
  case Tr | Tq | Tn | Tj | Ti | Th | Tg | Tf | Te | Td | Tc | S_=>walk_at "ni"

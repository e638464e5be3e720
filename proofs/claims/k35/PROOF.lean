import PyProof.Rows.All
import Wide.All
import OpenK.AllK
import Wide.FinOn
import Lean
import PyProof.EqAt
import PyProof.EqKinds
import PyProof.TupleCall
import PyProof.P3In
import PyProof.NeData
import KE.KMinKey
import PyProof.Rows.CallKwBuiltin
import PyProof.LayNew
import PyProof.EnumFor
import PyProof.EnumMake
import PyProof.EnumStmt
import KE.KRevIter
import KE.KRevSl
import PyProof.StationsW
import PyProof.RulesAs
import KE.KTryMore
import PyProof.Rows.TopTwo
import PyProof.NsDelKeeps
import PyProof.ExcArgsOwn
import KE.KIsAll
import PyProof.AutoListH
import PyProof.SetRoads
import PyProof.SetNew
import PyProof.ListRange
import PyProof.Rows.TupDisplay
import PyProof.Draws
import PyProof.ZipIter
import PyProof.TupleIter
import PyProof.AttrMissSeq
import KE.KDictOf
import PySem.Challenge.RW_waithands_k35_other_posts_in_the_midst
set_option Elab.async false
set_option linter.all false
set_option maxRecDepth 100000
abbrev AA:=PySem.Value
abbrev AB:=PySem.Shared
abbrev AC:=PySem.Program
section
open PySem
abbrev LA:=List (Addr×Obj)
abbrev AD:List Str:=["row","hands","newest"]
abbrev AE:List Str:=["rule","hands","newest"]
abbrev AF:List Str:=["post","hands","newest"]
abbrev AG:List Str:=["post","hands","newest","free"]
abbrev AH:List Str:=["ready","called","many"]
abbrev AI:List Str:=["post","stand","change"]
abbrev AJ:List Str:=["post","stand","come","free"]
abbrev AK:List Str:=["_law_script","_law_k"]
abbrev AL:List Str:=["_law_tape_here","_law_many"]
abbrev AM:List Str:=["_law_tape_here"]
abbrev AN:List Str:=["_law_tape_here","_law_small"]
abbrev AO:List Str:=["total","posts"]
abbrev AQ:List Str:=["onward","behind"]
abbrev AR:List Str:=["total","posts","stands"]
abbrev AS:List Str:=["name","post","onward"]
abbrev AT:List Str:=["self","total","posts","stands"]
abbrev AU:List Str:=["self","names"]
abbrev AV:List Str:=["self"]
abbrev AW:List Str:=["self","name"]
abbrev AX:List Str:=["_law_name","_law_post_here","_law_onward"]
abbrev AY:List Str:=["_law_tape_here","_law_total","_law_rows"]
abbrev AZ:List Str:=["_law_tape_here","_law_names_here"]
abbrev Ap:List Str:=["_law_found","_law_due"]
abbrev As:List Str:=["_law_row_here","_law_hands_here","_law_newest"]
abbrev Au:List Str:=["_law_post_here","_law_hands_here","_law_newest"]
abbrev BA:List Str:=["_law_post_here","_law_stand_here","_law_come","_law_free"]
abbrev BB:List Str:=["_law_model"]
abbrev BC:List Str:=["_law_rows","_law_stands_here"]
abbrev BD:List Str:=["_law_model","_law_total","_law_comes_here"]
abbrev BE:List Str:=["_law_yard_here","_law_model","_law_beats"]
abbrev BF:List Str:=["_law_tape_here","_law_post_here"]
abbrev BG:List Str:=["_law_yard_here","_law_model","_law_total","_law_at","_law_post_here"]
abbrev BH:List Str:=["_law_k","_law_spot","_law_at","_law_post_here"]
abbrev BI:List Str:=["_law_script"]
end
section
open PySem PySem.Spec PyProof.Rows
abbrev bh:=@wpAny_bind
abbrev dC:=@List.getElem?_eq_getElem
abbrev bW:=@List.length_map
abbrev cM:=@List.getElem?_map
abbrev eF:=@Heap.get?_push_of_some
abbrev iV:=@List.getD_eq_getElem?_getD
abbrev iY:=@List.getElem?_eq_some_iff
abbrev gF:=@lookup_relabel_local
abbrev cH:=@wpAny_pure
abbrev iU:=@List.mem_singleton
abbrev bN:=@List.mem_cons
abbrev dz:=@List.mem_of_getElem?
abbrev dg:=@List.length_append
abbrev bJ:=@Nat.le_refl
abbrev dI:=@Heap.get?_push_size
abbrev aQ:=@if_neg
abbrev bV:=@Heap.lt_size
abbrev aX:=@if_pos
abbrev e_:=@List.not_mem_nil
abbrev cV:=@List.mem_map
abbrev fH:=@List.length_cons
abbrev gb:=@List.size_toArray
abbrev jb:=@List.mem_cons_of_mem
abbrev ju:=@List.mem_append_right
abbrev iK:=@List.mem_cons_self
abbrev ig:=@List.map_append
abbrev fG:=@Nat.ne_of_lt
abbrev iJ:=@List.mem_append
abbrev lg:=@Bool.false_ne_true
abbrev iW:=@Heap.size_push
abbrev iI:=@List.map_cons
abbrev k_:=@List.length_take
abbrev jY:=@List.nodup_cons
abbrev gU:=@Nat.zero_le
abbrev jF:=@decide_eq_true
abbrev pI:=@Nat.lt_of_lt_of_le
abbrev iH:=@wpAny_field
abbrev mJ:=@decide_eq_false
abbrev jX:=@wpAny_holding
abbrev jE:=@Nat.le_of_lt
abbrev uW:=@List.length_replicate
abbrev pH:=@List.take_length
abbrev wC:=@Heap.get?_update_other
abbrev rC:=@of_decide_eq_true
abbrev qw:=@List.all_eq_true
abbrev rB:=@Int.toNat_natCast
abbrev lW:=@Nat.le_trans
abbrev wB:=@List.mem_of_mem_take
abbrev rn:=@List.lookup_cons
abbrev tG:=@List.nodup_append
abbrev uV:=@wpAny_Call_Name_kw
abbrev Ef:=@List.getElem?_append_right
abbrev rm:=@List.length_nil
abbrev tE:=@List.getElem_mem
abbrev q_:=@List.append_nil
abbrev uU:=@wpAny_newObj_type
abbrev jW:=@wpAny_mono
abbrev wA:=@of_decide_eq_false
abbrev qZ:=@wpAny_seqItems
abbrev Aj:=@List.getElem?_of_mem
abbrev Hf:=@List.drop_eq_getElem_cons
abbrev wz:=@List.length_drop
abbrev Hd:=@wpAny_callSpecial?_slot
abbrev Ai:=@Bool.false_eq_true
abbrev JR:=@List.getElem?_append_left
abbrev Hc:=@Heap.get?_update_self
abbrev uT:=@Nat.lt_irrefl
abbrev yr:=@Int.emod_nonneg
abbrev Ed:=@Int.emod_lt_of_pos
abbrev Ah:=@wpAny_call_entry
abbrev Hb:=@List.mem_of_mem_drop
abbrev Ec:=@wpAny_pyIter_list
abbrev JQ:=@Option.map_eq_some_iff
abbrev Ha:=@List.filterMap_cons
abbrev O1:=@Option.isSome_iff_exists
abbrev m8:=@congrArg
abbrev G_:=@wpAny_truthy_bool
abbrev GZ:=@Nat.lt_succ_of_lt
abbrev GX:=@List.append_assoc
abbrev Ag:=@wpAny_standAt
abbrev Af:=@List.sum_cons
abbrev GR:=@Nat.lt_succ_self
abbrev GQ:=@List.drop_length
abbrev GP:=@Bool.and_eq_true
abbrev JP:=@wpAny_setField_rec
abbrev RT:=@List.mem_or_eq_of_mem_set
abbrev GK:=@List.forIn_cons
abbrev yq:=@wpAny_of_eq
abbrev OJ:=@List.replicate_succ
abbrev Eb:=@Nat.ne_of_gt
abbrev RQ:=@List.take_of_length_le
abbrev JN:=@List.length_set
abbrev OD:=@List.getElem?_set
abbrev JM:=@wpAny_tryCatch
abbrev Ae:=@wpAny_rule
abbrev RP:=@List.mem_append_left
abbrev VM:=@Array.getElem?_eq_some_iff
abbrev Oz:=@Nat.le_add_right
abbrev vU:=@List.map_set
abbrev vR:=@List.map_map
abbrev Mu:=@Array.getElem?_eq_getElem
abbrev yz:=@List.any_cons
abbrev Cr:=@Option.map_some
abbrev Cq:=@List.find?_cons
abbrev Ht:=@List.getElem?_drop
abbrev Mt:=@wpAny_getItem_str_slice
abbrev Ms:=@List.getElem?_replicate
abbrev yx:=@wpAny_typeOf
abbrev Cp:=@wpAny_setField
abbrev Cm:=@List.take_succ
abbrev yw:=@Int.zero_add
abbrev Hs:=@List.ext_getElem
abbrev Ck:=@List.map_take
abbrev yu:=@wpAny_letGo
abbrev Hr:=@wpAny_passesOwn
abbrev Hq:=@wpAny_execs_nil
abbrev Ho:=@List.range_succ
abbrev Hn:=@List.of_mem_zip
abbrev Hm:=@List.nil_append
abbrev Hl:=@Bool.eq_iff_iff
abbrev Cj:=@Nat.sub_self
abbrev Mr:=@wpAny_pyIter_tuple
abbrev Hk:=@wpAny_bindName
abbrev Mq:=@Nat.lt_of_le_of_lt
abbrev Hj:=@List.forIn_nil
abbrev Hi:=@List.drop_zero
abbrev Ci:=@Nat.le_succ
abbrev Mp:=@Nat.le_of_succ_le
abbrev Mm:=@List.flatten_cons
abbrev Ml:=@wpAny_pyIter_zip
abbrev RX:=@List.lookup_eq_none_iff
abbrev RW:=@wpAny_pyNext_list_item
abbrev RV:=@wpAny_pyIter_rangeiter
abbrev Hh:=@Nat.lt_trans
abbrev Hg:=@Int.sub_zero
end
set_option compiler.extract_closed false
theorem za(h:1=1:=by rfl):1=1:=h
theorem zb(h:1=1:=by decide):1=1:=h
theorem zc(h:1=1:=by intro _;rfl):1=1:=h
theorem zd(h:1=1:=by walk_at "h"):1=1:=h
theorem ze(h:1=1:=by exact ND):1=1:=h
theorem zf(h:1=1:=by walk_at "o"):1=1:=h
theorem zg(h:1=1:=by walk_at "l"):1=1:=h
theorem zh(h:1=1:=by decide +kernel):1=1:=h
theorem zi(h:1=1:=by exact fun _ _ z=>z):1=1:=h
local macro_rules | `(~~~$x)=>`(autoParam $x za._auto_1)
local macro_rules | `($x⁻¹)=>`(autoParam $x zb._auto_1)
local macro_rules | `(‹$x›)=>`(autoParam $x zc._auto_1)
open PySem.W (instObj methodObj Frag lookIn plainGet hasDictIn findIn handedIn plainGet_of isFn plainOver takerIn makesIn emptyDict specialIn keepIn mroIn kitOne kia_one kitx_none kitx_bool kitx_int kitx_str kitx_float kitx_list kitx_tuple kitx_dict kitx_own callWith_K methodCall_KW cellsFrom_some fnOf codeIn codeRec_of kitAny kia_tup excIn findObj subIn nsIn mg_of exmOne clsIn mg_none_of)
set_option hygiene false in
local macro_rules | `(tactic| walk_at "l")=>`(tactic| (rintro vs H Q E h; first | (obtain⟨_,h,_⟩:=h;subst h;rfl)|(obtain⟨_,_,h,_⟩:=h;subst h;rfl)|(obtain⟨_,_,_,h,_⟩:=h;subst h;rfl)|(obtain⟨_,_,_,_,h,_⟩:=h;subst h;rfl)|(obtain⟨_,_,_,_,_,h,_⟩:=h;subst h;rfl)|(obtain⟨_,_,_,_,_,_,h,_⟩:=h;subst h;rfl)|(obtain⟨_,_,_,_,_,_,_,h,_⟩:=h;subst h;rfl)|(obtain⟨_,_,_,_,_,_,_,_,h,_⟩:=h;subst h;rfl)|(obtain⟨_,_,_,_,_,_,_,_,_,h,_⟩:=h;subst h;rfl)|(obtain⟨_,_,_,_,_,_,_,_,_,_,h,_⟩:=h;subst h;rfl)|(obtain⟨_,_,_,_,_,_,_,_,_,_,_,h,_⟩:=h;subst h;rfl)|(obtain⟨_,_,_,_,_,_,_,_,_,_,_,_,h,_⟩:=h;subst h;rfl)))
local macro_rules | `(tactic| walk_at "o")=>`(tactic| first | exact Or.inl rfl | exact Or.inr rfl)
local macro_rules | `(tactic| walk_at "h")=>`(tactic| first | exact .inl rfl | exact .inr rfl | assumption)
local macro_rules | `(tactic| walk_at "v")=>`(tactic| first | exact Or.inl rfl | exact Or.inr (Or.inl rfl) | exact Or.inr (Or.inr rfl))
local macro_rules | `(tactic| omega)=>`(tactic| first | lia | omega (splitDisjunctions:=true))
local macro_rules | `(⋯)=>`(by decide)
local macro_rules | `(∅)=>`(by omega)
set_option hygiene false in
local macro_rules | `(tactic| symm)=>`(tactic| (refine .mk ?_;intro ae s σ H))
set_option hygiene false in
local macro_rules | `((0:))=>`(fun cdv A outer s H vs Q E hr h=>?_)
namespace _L
open PySem PySem.Spec PyProof.Rows
abbrev Key:=Sum Int Str
def CP:Key->AA->Bool
 | .inl k,v=>Value.isInt k v
 | .inr x,v=>Value.isStrOf x v
def afB(w:World):Key->Int
 | .inl k=>hashInt k
 | .inr x=>hashStr w x
theorem dW:∀{k:Key}{v:AA},CP k v=true->(∃i t,k=Sum.inl i/\v=Value.int i t)\/(∃x t,k=Sum.inr x/\v=Value.str x t)
 | .inl i,v,h=>by
  obtain⟨t,e⟩:=Value.isInt_shape (k:=i) (v:=v) h;exact .inl ⟨i,t,rfl,e⟩
 | .inr x,v,h=>by
  obtain⟨t,e⟩:=Value.isStrOf_shape (x:=x) (v:=v) h;exact .inr ⟨x,t,rfl,e⟩
theorem PB(i:Int)(t:Tok):CP (.inl i) (.int i t)=true:=by simp[CP,Value.isInt]
theorem Pz(x:Str)(t:Tok):CP (.inr x) (.str x t)=true:=by simp[CP,Value.isStrOf]
theorem aal(a b:Int):decide ((Sum.inl a:Key)=Sum.inl b)=(a==b):=by
 by_cases e:a=b
 ·subst e; simp
 ·have h:¬(Sum.inl a:Key)=Sum.inl b:=fun q=>e (Sum.inl.inj q);rw[mJ h];exact(beq_eq_false_iff_ne.mpr e).symm
theorem aai(a b:Str):decide ((Sum.inr a:Key)=Sum.inr b)=decide (a=b):=by
 by_cases e:a=b
 ·subst e; simp
 ·have h:¬(Sum.inr a:Key)=Sum.inr b:=fun q=>e (Sum.inr.inj q);rw[mJ h,mJ e]
theorem aak(a:Int)(b:Str):decide ((Sum.inl a:Key)=Sum.inr b)=false:=mJ (fun q=>nomatch q)
theorem aaj(a:Str)(b:Int):decide ((Sum.inr a:Key)=Sum.inl b)=false:=mJ (fun q=>nomatch q)
def dU(prog:AC)(w:World):PySem.KeyKind prog w Key where
 is:=CP
 hash:=afB w
 inj:=fun v a b ha hb=>by
  rcases dW ha with⟨i,t,rfl,rfl⟩ | ⟨x,t,rfl,rfl⟩
  ·rcases dW hb with⟨j,u,rfl,e⟩ | ⟨y,u,rfl,e⟩
   ·injection e with e1 _; rw[e1]
   ·exact nomatch e
  ·rcases dW hb with⟨j,u,rfl,e⟩ | ⟨y,u,rfl,e⟩
   ·exact nomatch e
   ·injection e with e1 _; rw[e1]
 byValue:=fun k v h=>by
  rcases dW h with⟨i,t,rfl,rfl⟩ | ⟨x,t,rfl,rfl⟩ <;> rfl
 pyHash:=fun hv h=>by
  rcases dW hv with⟨i,t,rfl,rfl⟩ | ⟨x,t,rfl,rfl⟩
  ·exact wpAny_pyHash_int h
  ·exact wpAny_pyHash_str h
 eqBool:=fun hu hv h=>by
  rcases dW hu with⟨i,t,rfl,rfl⟩ | ⟨x,t,rfl,rfl⟩
  ·rcases dW hv with⟨j,u,rfl,rfl⟩ | ⟨y,u,rfl,rfl⟩
   ·rw[aal] at h; exact wpAny_eqBool_int h
   ·rw[aak] at h; exact SeqAt.EqAt.int_str i t y u _ _ _ _ h
  ·rcases dW hv with⟨j,u,rfl,rfl⟩ | ⟨y,u,rfl,rfl⟩
   ·rw[aaj] at h; exact SeqAt.EqAt.str_int x t j u _ _ _ _ h
   ·rw[aai] at h; exact wpAny_eqBool_str h
 «strs»:=fun k x t v h=>by
  rcases dW h with⟨i,u,rfl,e⟩ | ⟨y,u,rfl,e⟩
  ·exact nomatch e
  ·injection e with e1 _
   subst e1;cases v <;> rfl
theorem Ig(prog:AC)(w:World)(i:Int)(t:Tok):(dU prog w).is (.inl i) (.int i t)=true:=PB i t
theorem Ie(prog:AC)(w:World)(x:Str)(t:Tok):(dU prog w).is (.inr x) (.str x t)=true:=Pz x t
inductive V where
 | non | bl (b:Bool) | int (i:Int) | str (x:Str) | Qv (b:Array UInt8) | flt (b:UInt64) | ref (a:Addr) | ty (n:String)
 deriving DecidableEq
def RelV:V->AA->Prop
 | .non,u=>u=Value.none
 | .bl b,u=>u=Value.bool b
 | .int i,u=>∃t,u=Value.int i t
 | .str x,u=>∃t,u=Value.str x t
 | .Qv b,u=>∃t,u=Value.bytes b t
 | .flt b,u=>∃t,u=Value.float b t
 | .ref a,u=>u=Value.ref a
 | .ty n,u=>u=Value.type n
abbrev Vals:List V->List AA->Prop:=Paired RelV
theorem Vals.length{xs:List V}{us:List AA}(r:Vals xs us):xs.length=us.length:=Paired.length r
theorem Vals.get:∀{xs:List V}{us:List AA}{i:Nat}{x:V},Vals xs us->xs[i]?=some x->∃u,us[i]?=some u/\RelV x u
 | _,_,_,_,.nil,e=>by simp at e
 | _,_,0,_,.cons r _,e=>by simp at e; subst e; exact⟨_,rfl,r⟩
 | _,_,i+1,x,.cons _ t,e=>by
  obtain⟨u,h1,h2⟩:=Vals.get (i:=i) (x:=x) t (by simpa using e)
  exact⟨u,by simpa using h1,h2⟩
theorem Vals.set{x:V}{u:AA}(r:RelV x u):∀{xs:List V}{us:List AA}(i:Nat),Vals xs us->Vals (xs.set i x) (us.set i u)
 | _,_,_,.nil=>.nil
 | _,_,0,.cons _ t=>.cons r t
 | _,_,i+1,.cons q t=>.cons q (Vals.set r i t)
theorem Vals.append:∀{xs ys:List V}{us ws:List AA},Vals xs us->Vals ys ws->Vals (xs++ys) (us++ws)
 | _,_,_,_,.nil,s=>s
 | _,_,_,_,.cons r t,s=>.cons r (Vals.append t s)
theorem Vals.take:∀{xs:List V}{us:List AA}(n:Nat),Vals xs us->Vals (xs.take n) (us.take n)
 | _,_,0,_=>.nil
 | _,_,_+1,.nil=>.nil
 | _,_,n+1,.cons r t=>.cons r (Vals.take n t)
theorem Vals.drop:∀{xs:List V}{us:List AA}(n:Nat),Vals xs us->Vals (xs.drop n) (us.drop n)
 | _,_,0,r=>r
 | _,_,_+1,.nil=>.nil
 | _,_,n+1,.cons _ t=>Vals.drop n t
def oh:Option V->Option AA->Prop
 | some v,some u=>RelV v u
 | none,none=>True
 | _,_=>False
def KV{κ:Type}:List (κ×V)->List (κ×AA)->Prop:=Paired fun(p:κ×V)(q:κ×AA)=>p.1=q.1/\RelV p.2 q.2
def kV:Key->V
 | .inl i=>.int i
 | .inr x=>.str x
inductive HO where
 | lst (xs:List V)
 | tup (xs:List V)
 | dK (kvs:List (Key×V)) | dT (kvs:List (List Key×V))
 | set (S:Int->Bool) (n:Nat)
 | ins (C dx:Addr) (fs:List (Str×V))
 | own (x:Addr)
 | xd (fs:List (Str×V))
 | met (f x:Addr)
 | rng (lo hi:Int)
 | tW (o:Obj) (u:HO)
 | Xq (ps:Array AA)
 | ext (φ:Heap->Prop)
abbrev Hp:=Addr->Option HO
def upd(H:Hp)(a:Addr)(o:HO):Hp:=fun b=>if b=a then some o else H b
theorem aB{H:Hp}{a:Addr}{o:HO}:upd H a o a=some o:=by unfold upd; rw[aX rfl]
theorem aJ{H:Hp}{a b:Addr}{o:HO}(h:b≠a):upd H a o b=H b:=by unfold upd; rw[aQ h]
theorem wR{H:Hp}{a:Addr}{o u:HO}:upd (upd H a o) a u=upd H a u:=by
 funext b; unfold upd; split <;> rfl
theorem acG{H:Hp}{a b:Addr}{o u:HO}(h:H a=some o)(h':H b=some u)(d:o≠u):a≠b:=by
 intro e; subst e; rw[h] at h'; exact d (Option.some.inj h')
theorem cB{H:Hp}{a b:Addr}{o:HO}(h:H a=some o)(h':H b=none):a≠b:=by
 intro e; subst e; rw[h] at h'; cases h'
section
variable(P:AC)(w:World)
def bZ(H:Hp)(h:Heap)(a:Addr):HO->Prop
 | .lst xs=>xs.length<=sizeLine/\∃(its:List AA)(n:Nat),Vals xs its/\h.get? a=some { cls:=.type "list",data:=.seq its.toArray n }
 | .tup xs=>xs.length<=sizeLine/\∃its:List AA,Vals xs its/\IsTup h a its.toArray
 | .dK kvs=>kvs.length<=sizeLine/\(a==sysModules)=false/\∃vs,KV kvs vs/\h.DictOf (dU P w) a vs
 | .dT kvs=>kvs.length<=sizeLine/\(a==sysModules)=false/\∃xs:List (List Key×Addr×AA),
   Paired (fun(p:List Key×V)(q:List Key×Addr×AA)=>p.1=q.1/\H q.2.1=some (.tup (p.1.map kV))/\RelV p.2 q.2.2) kvs xs /\
   ∃o es ep,h.get? a=some o/\o.ExactDict/\o.data=.dict es ep/\es.toList=xs.map (entryOfKey (tupleKind (dU P w)))/\(xs.map (·.1)).Nodup
 | .set S n=>h.SetOf (intKind P w) a S n
 | .ins C dx fs=>H dx=some (.own a)/\fs.length<=1000/\dx≠a/\h.get? a=some (instObj C dx) /\
   ∃mA,h.Ns1 dx mA/\(∀f,oh (fs.lookup f) (mA f))/\PySem.Within mA (fs.map (·.1))
 | .own _=>∃o,h.get? a=some o
 | .xd fs=>∃mA,h.Ns1 a mA/\∀f,oh (fs.lookup f) (mA f)
 | .rng lo hi=>∃t u v,h.get? a=some { cls:=.type "range",data:=.fields #[.int lo t,.int hi u,.int 1 v] }
 | .tW o u=>h.get? a=some o/\bZ H h a u
 | .Xq ps=>h.get? a=some { cls:=.none,data:=.fields ps }
 | .met f x=>h.get? a=some (methodObj (.ref f) (.ref x))
 | .ext φ=>φ h/\(∃o,h.get? a=some o)/\∀h1 h2:Heap,φ h1->(∀o,h1.get? a=some o->h2.get? a=some o)->φ h2
def lJ(H:Hp)(h:Heap):Prop:=∀a o,H a=some o->bZ P w H h a o
end
section
variable{P:AC}{w:World}{H H':Hp}{h h':Heap}{a:Addr}{o:HO}
theorem bZ.lt(x:bZ P w H h a o):a<h.objs.size:=by
 cases o with
 | lst xs=>obtain⟨_,_,_,_,e⟩:=x; exact bV e
 | tup xs=>obtain⟨_,_,_,p⟩:=x; exact p.lt
 | dK kvs=>obtain⟨_,_,_,_,o,_,_,e,_⟩:=x; exact bV e
 | dT kvs=>obtain⟨_,_,_,_,o,_,_,e,_⟩:=x; exact bV e
 | set S n=>obtain⟨o,_,_,_,e,_⟩:=x; exact bV e
 | ins C dx fs=>obtain⟨_,_,_,e,_⟩:=x; exact bV e
 | own y=>obtain⟨_,e⟩:=x; exact bV e
 | xd fs=>obtain⟨_,⟨_,_,_,e,_⟩,_⟩:=x; exact bV e
 | rng lo hi=>obtain⟨_,_,_,e⟩:=x; exact bV e
 | tW ob u=>obtain⟨e,_⟩:=x; exact bV e
 | Xq ps=>exact bV (show h.get? a=some _ from x)
 | met f y=>exact bV (show h.get? a=some _ from x)
 | ext φ=>obtain⟨_,⟨_,e⟩,_⟩:=x; exact bV e
theorem Paired.aab{α β:Type}{F G:α->β->Prop}:∀{l₁:List α} {l₂:List β},Paired F l₁ l₂->(∀a b,F a b->G a b)->Paired G l₁ l₂
 | _,_,.nil,_=>.nil
 | _,_,.cons r t,f=>.cons (f _ _ r) (Paired.aab t f)
theorem bZ.stay(x:bZ P w H h a o)(k:∀b u,(b=a\/H b=some (.own a))->h.get? b=some u->h'.get? b=some u)
  (ho:∀b,H b=some (.own a)->H' b=some (.own a)) (ht:∀b xs,H b=some (.tup xs)->H' b=some (.tup xs)):bZ P w H' h' a o:=by
 induction o with
 | lst xs=>obtain⟨z,its,n,r,e⟩:=x; exact⟨z,its,n,r,k _ _ (.inl rfl) e⟩
 | tup xs=>obtain⟨z,its,r,ob,e,c⟩:=x; exact⟨z,its,r,ob,k _ _ (.inl rfl) e,c⟩
 | dK kvs=>obtain⟨z,y,vs,r,ob,es,ep,e,c⟩:=x; exact⟨z,y,vs,r,ob,es,ep,k _ _ (.inl rfl) e,c⟩
 | dT kvs=>
  obtain⟨z,y,xs,r,ob,es,ep,e,c⟩:=x;exact⟨z,y,xs,Paired.aab r fun p q z=>⟨z.1,ht _ _ z.2.1,z.2.2⟩,ob,es,ep,k _ _ (.inl rfl) e,c⟩
 | set S n=>obtain⟨ob,es,ep,t,e,c⟩:=x; exact⟨ob,es,ep,t,k _ _ (.inl rfl) e,c⟩
 | ins C dx fs=>
  obtain⟨d,z,ne,e,mA,⟨od,es,ep,e2,c⟩,r⟩:=x;exact⟨ho _ d,z,ne,k _ _ (.inl rfl) e,mA,⟨od,es,ep,k _ _ (.inr d) e2,c⟩,r⟩
 | own y=>obtain⟨ob,e⟩:=x; exact⟨ob,k _ _ (.inl rfl) e⟩
 | xd fs=>obtain⟨mA,⟨od,es,ep,e,c⟩,r⟩:=x; exact⟨mA,⟨od,es,ep,k _ _ (.inl rfl) e,c⟩,r⟩
 | rng lo hi=>obtain⟨t,u,v,e⟩:=x; exact⟨t,u,v,k _ _ (.inl rfl) e⟩
 | tW ob u ih=>obtain⟨e,q⟩:=x; exact⟨k _ _ (.inl rfl) e,ih q⟩
 | Xq ps=>
  have e:h.get? a=some { cls:=.none,data:=.fields ps }:=x;show h'.get? a=some { cls:=.none,data:=.fields ps };exact k a _ (.inl rfl) e
 | met f y=>
  have e:h.get? a=some (methodObj (.ref f) (.ref y)):=x;show h'.get? a=some (methodObj (.ref f) (.ref y));exact k a _ (.inl rfl) e
 | ext φ=>obtain⟨p,⟨o,e⟩,st⟩:=x; exact⟨st _ _ p fun o q=>k _ _ (.inl rfl) q,⟨o,k _ _ (.inl rfl) e⟩,st⟩
theorem lJ.lt(x:lJ P w H h)(e:H a=some o):a<h.objs.size:=(x a o e).lt
theorem lJ.fresh(x:lJ P w H h)(e:h.objs.size<=a):H a=none:=by
 cases q:H a with
 | none=>rfl
 | some u=>exact absurd (pI (x.lt q) e) (uT _)
theorem lJ.kept(x:lJ P w H h)(k:∀b u,h.get? b=some u->h'.get? b=some u):lJ P w H h':=fun a o e=>
 (x a o e).stay (fun b u _ q=>k b u q) (fun _ q=>q) fun _ _ q=>q
theorem lJ.laid(x:lJ P w H h)(k:∀b u,h.get? b=some u->h'.get? b=some u)(hp:h.objs.size<=a)(new:bZ P w (upd H a o) h' a o):lJ P w (upd H a o) h':=fun b u e=>by
 have hn:=x.fresh hp;by_cases hb:b=a
 ·subst hb; rw[aB] at e; cases e; exact new
 ·rw[aJ hb] at e;exact(x b u e).stay (fun c v _ q=>k c v q) (fun c q=>by rw[aJ (cB q hn)]; exact q) fun c xs q=>by rw[aJ (cB q hn)]; exact q
end
def Rd(H:Hp)(a:Addr)(u:HO):Prop:=H a=some u\/∃o,H a=some (.tW o u)
theorem Rd.ok{P:AC}{w:World}{H:Hp}{h:Heap}{a:Addr}{u:HO}(r:Rd H a u)(x:lJ P w H h):bZ P w H h a u:=by
 rcases r with r | ⟨o,r⟩
 ·exact x a u r
 ·obtain⟨_,q⟩:=x a _ r;exact q
def Mut:Option HO->Prop
 | some (.lst _)=>True
 | some (.dK _)=>True
 | some (.dT _)=>True
 | some (.set _ _)=>True
 | some (.ins _ _ _)=>True
 | some (.ext _)=>True
 | _=>False
section
variable{P:AC}{w:World}{H:Hp}{h h':Heap}{x e:Addr}{o':HO}
theorem lJ.write(ok:lJ P w H h)(mu:Mut (H x))(he:e=x\/H e=some (.own x))(k:∀b u,b≠e->h.get? b=some u->h'.get? b=some u)(heo:∃u,h'.get? e=some u)
  (new:bZ P w (upd H x o') h' x o'):lJ P w (upd H x o') h':=fun b u q=>by
 have acC:∀c y,H c=some (.own y)->c≠x:=fun c y r z=>by subst z; rw[r] at mu; exact mu
 have afp:∀c xs,H c=some (.tup xs)->c≠x:=fun c xs r z=>by subst z; rw[r] at mu; exact mu
 by_cases hb:b=x
 ·subst hb; rw[aB] at q; cases q; exact new
 ·rw[aJ hb] at q;by_cases hbe:b=e
  ·have q':H b=some (.own x):=by
    rcases he with z | z
    ·exact absurd (hbe.trans z) hb
    ·rw[hbe]; exact z
   rw[q] at q'; cases q';obtain⟨v,hv⟩:=heo;exact⟨v,by rw[hbe]; exact hv⟩
  ·refine(ok b u q).stay (fun c v hc r=>k c v ?_ r) (fun c r=>by rw[aJ (acC c b r)]; exact r) fun c xs r=>by rw[aJ (afp c xs r)]; exact r
   rcases hc with rfl | hc
   ·exact hbe
   ·rintro rfl;rcases he with z | z
    ·exact acC c b hc z
    ·rw[hc] at z; cases z; exact hb rfl
end
structure Un(fs ex:List Addr)(H H':Hp)(h h':Heap):Prop where
 keep:∀b o,h.get? b=some o->H b=none->b∉fs->b∉ex->h'.get? b=some o
 slot:∀b o,h.get? b=some o->H b=none->b∈fs->b∉ex->∃sl,h'.get? b=some { o with slots:=sl }
 free:∀b o,h.get? b=some o->H b=none->b∉ex->H' b=none
 there:∀b o,h.get? b=some o->b∉ex->∃o',h'.get? b=some o'
 tups:∀b xs,H b=some (.tup xs)->H' b=some (.tup xs)
 wN:∀b o u,H b=some (.tW o u)->H' b=some (.tW o u)
 Ab:∀b ps,H b=some (.Xq ps)->∃more,H' b=some (.Xq (ps++more))
section
variable{fs fs' ex ex':List Addr}{H H1 H2:Hp}{h h1 h2 h':Heap}{a x e:Addr}{o:HO}
theorem Un.any(u:Un fs ex H H1 h h1){b:Addr}{ob:Obj}(q:h.get? b=some ob)(n:H b=none)(hx:b∉ex):∃sl,h1.get? b=some { ob with slots:=sl }:=by
 by_cases hb:b∈fs
 ·exact u.slot b ob q n hb hx
 ·exact⟨ob.slots,u.keep b ob q n hb hx⟩
theorem Un.kept(k:∀b u,h.get? b=some u->h'.get? b=some u):Un fs ex H H h h':=
 ⟨fun b ob q _ _ _=>k b ob q,fun b ob q _ _ _=>⟨ob.slots,k b ob q⟩,fun _ _ _ n _=>n,fun b ob q _=>⟨ob,k b ob q⟩,fun _ _ q=>q,fun _ _ _ q=>q,fun _ ps q=>⟨#[],by rw[q]; simp⟩⟩
theorem Un.refl:Un fs ex H H h h:=Un.kept fun _ _ q=>q
theorem Un.laid(k:∀b u,h.get? b=some u->h'.get? b=some u)(hp:h.objs.size<=a)(hn:H a=none):Un fs ex H (upd H a o) h h' where
 keep:=fun b u q _ _ _=>k b u q
 slot:=fun b u q _ _ _=>⟨u.slots,k b u q⟩
 free:=fun b u q n _=>by rw[aJ (fG (pI (bV q) hp))]; exact n
 there:=fun b u q _=>⟨u,k b u q⟩
 tups:=fun b xs q=>by rw[aJ (cB q hn)]; exact q
 wN:=fun b u xs q=>by rw[aJ (cB q hn)]; exact q
 Ab:=fun b ps q=>⟨#[],by rw[aJ (cB q hn),q]; simp⟩
theorem Un.write(mu:Mut (H x))(he:e=x\/H e=some (.own x))(k:∀b u,b≠e->h.get? b=some u->h'.get? b=some u)(heo:∃u,h'.get? e=some u):Un fs ex H (upd H x o) h h':=by
 have hx:∀b,H b=none->b≠x:=fun b n z=>by subst z; rw[n] at mu; exact mu
 have hb:∀b,H b=none->b≠e:=fun b n z=>by
  subst z;rcases he with r | r
  ·exact hx b n r
  ·rw[n] at r; cases r
 have hm:∀b u,H b=some u->¬Mut (some u)->b≠x:=fun b u q nm z=>by subst z; rw[q] at mu; exact nm mu
 refine⟨fun b u q n _ _=>k b u (hb b n) q,fun b u q n _ _=>⟨u.slots,k b u (hb b n) q⟩,fun b u q n _=>by rw[aJ (hx b n)]; exact n,fun b u q _=>?_,
  fun b xs q=>by rw[aJ (hm b _ q fun z=>z)]; exact q,fun b u xs q=>by rw[aJ (hm b _ q fun z=>z)]; exact q,fun b ps q=>⟨#[],by rw[aJ (hm b _ q fun z=>z),q]; simp⟩⟩
 by_cases hbe:b=e
 ·subst hbe; exact heo
 ·exact⟨u,k b u hbe q⟩
end
def trk(h:Heap)(H:Hp):List Addr:=(List.range h.objs.size).filter fun a=>(H a).isSome
def Fe(h:Heap)(H:Hp):Heap:=PySem.W.hideAll h (trk h H)
theorem PQ(h:Heap)(H:Hp):(Fe h H).objs.size=h.objs.size:=PySem.W.hideAll_size _ _
theorem Tv{h:Heap}{H:Hp}{b:Addr}{o:Obj}(e:h.get? b=some o)(n:H b=none):(Fe h H).get? b=some o:=
 PySem.W.hideAll_get _ e fun hm=>by
  have q:(H b).isSome=true:=(List.mem_filter.mp hm).2;rw[n] at q; simp at q
theorem Wq{h:Heap}{H:Hp}{b:Addr}{o:Obj}(e:(Fe h H).get? b=some o):h.get? b=some o/\H b=none:=by
 have e':h.get? b=some o:=PySem.W.of_hideAll (trk h H) e;refine⟨e',?_⟩;cases q:H b with
 | none=>rfl
 | some x=>
  have hm:b∈trk h H:=List.mem_filter.mpr ⟨List.mem_range.mpr (bV e'),by simp[q]⟩
  have z:(Fe h H).get? b=none:=PySem.W.hideAll_none (trk h H) hm;rw[z] at e; cases e
def Xm(g h:Heap)(L:Addr):LA:=(List.range h.objs.size).filterMap fun a=>if a=L\/(g.get? a).isSome=true then none else(h.get? a).map fun o=>(a,o)
def rest(g h:Heap)(L d:Addr):LA:=(Xm g h L).filter fun p=>decide (p.1≠d)
structure Mod(K:Frag)(mg:Str->Option AA)(base:Heap):Prop where
 Tc:K.In base
 glob:base.Ns mainGlobals mg
 blt:∃mb,base.Ns builtinsNs mb/\∀x:Str,x ≠ "__name__" -> mb x=bootBuiltins x
 nolimit:base.NoLimit
structure Cx where
 prog:AC
 w:World
 K:Frag
 mg:Str->Option AA
 base:Heap
 A:Around
 N:List Str
 s₀:AB
 H₀:Hp
 env:Env
 outer:List Env
 stack:List Env
 ex:List Addr
 fn:Str->Bool
 calm:Bool
 pn:LA
 xe:AA->AB->Prop
def frs(l:List Env):List Addr:=l.filterMap (·.frame)
abbrev Cx.fs(X:Cx):List Addr:=frs X.outer
def Vis(sc:Scope)(x:Str):Prop:=sc.names.lookup x=some .local\/sc.names.lookup x=some .cell\/sc.names.lookup x=some .free
def Loc(sc:Scope)(x:Str):Prop:=sc.names.lookup x=some .local\/sc.names.lookup x=some .cell
def Look(env:Env)(h:Heap)(m:Str->Option AA)(x:Str)(u:AA):Prop:=
 (env.kindOf x=some .local/\m x=some u)\/((env.kindOf x=some .cell\/env.kindOf x=some .free)/\∃c,env.cells.lookup x=some c/\h.IsCell c (some u))
structure Cx.Ok(X:Cx):Prop where
 mod:Mod X.K X.mg X.base
 kind:X.env.scope.kind=.function
 glob:X.env.globals=mainGlobals
 blt:X.env.builtins=builtinsNs
 above:X.s₀.heap.objs.size<=X.env.locals
 inj:∀x y c,X.env.cells.lookup x=some c->X.env.cells.lookup y=some c->x=y
 has:∀x,(X.env.kindOf x=some .cell\/X.env.kindOf x=some .free)->∃c,X.env.cells.lookup x=some c
 cab:∀x c,X.fn x=true->X.env.cells.lookup x=some c->X.s₀.heap.objs.size<=c
 hd:X.calm=true->X.A.handled=none
 frames:X.A.frames=some X.stack
 stk:X.stack=X.outer\/(X.stack=X.env::X.outer/\X.env.frame=some X.env.locals)
 exf:∀b∈X.ex,b≠X.env.locals/\∀x c,X.env.cells.lookup x=some c->c≠b
 bs:∀b o,X.base.get? b=some o->X.s₀.heap.get? b=some o/\X.H₀ b=none
 Qw:X.base.objs.size<=X.s₀.heap.objs.size
 HW:∀b o,X.base.get? b=some o->b∉X.ex
 Ks:∀b∈X.ex,b∉X.fs
 vf:X.s₀.heap.FunFrames X.base X.outer
 Yl:∀b∈X.fs,X.H₀ b=none
structure Inv(X:Cx)(ae:LA)(σ:List (Option V))(H:Hp)(s:AB):Prop where
 ok:X.Ok
 os:s.os=X.s₀.os
 bare:AllBare s.gens
 base:Un X.fs X.ex X.H₀ H X.s₀.heap s.heap
 loc:∃m,s.heap.Ns X.env.locals m/\∀(i:Nat)(x:Str)(v:V),X.N[i]?=some x->σ[i]?=some (some v)->Vis X.env.scope x->∃u,RelV v u/\Look X.env s.heap m x u
 cell:∀x c,X.env.cells.lookup x=some c->∃v,s.heap.IsCell c v
 free:H X.env.locals=none
 j_:∀x c,X.env.cells.lookup x=some c->H c=none
 pin:∀p∈X.pn++ae,s.heap.get? p.1=some p.2/\H p.1=none/\p.1≠X.env.locals/\p.1∉X.fs/\∀v,p.2.data≠.cell v
 hok:lJ X.prog X.w H s.heap
 len:σ.length=X.N.length
section
variable{X:Cx}{ae:LA}{σ:List (Option V)}{H H':Hp}{s:AB}{h':Heap}
theorem Cx.Ok.afr(ok:X.Ok){b:Addr}{o:Obj}(e:X.base.get? b=some o):b∉X.fs:=fun hb=>by
 have:=(ok.vf.mem hb).1;rw[e] at this; cases this
theorem Inv.bs(I:Inv X ae σ H s):∀b o,X.base.get? b=some o->s.heap.get? b=some o/\H b=none:=fun b o e=>
 ⟨I.base.keep b o (I.ok.bs b o e).1 (I.ok.bs b o e).2 (I.ok.afr e) (I.ok.HW b o e),I.base.free b o (I.ok.bs b o e).1 (I.ok.bs b o e).2 (I.ok.HW b o e)⟩
theorem Inv.bk(I:Inv X ae σ H s):∀b o,X.base.get? b=some o->s.heap.get? b=some o:=fun b o e=>(I.bs b o e).1
theorem Inv.mod(I:Inv X ae σ H s):Mod X.K X.mg X.base:=I.ok.mod
theorem Inv.mL(I:Inv X ae σ H s):X.K.In s.heap:=I.ok.mod.Tc.keeps I.bk
theorem Inv.fr(I:Inv X ae σ H s):∃m,Fr X.base X.env.locals s.heap m:=
 let ⟨m,hn,_⟩:=I.loc
 ⟨m,hn,I.bk,lW I.ok.Qw I.ok.above⟩
theorem Inv.lt(I:Inv X ae σ H s):X.env.locals<s.heap.objs.size:=let ⟨_,hn,_⟩:=I.loc; hn.lt
theorem Inv.sz(I:Inv X ae σ H s):X.s₀.heap.objs.size<=s.heap.objs.size:=lW I.ok.above (jE I.lt)
theorem Inv.afq(I:Inv X ae σ H s){a:Addr}(h:s.heap.objs.size<=a):a∉X.fs:=fun hb=>by
 obtain⟨_,o,ho,_⟩:=I.ok.vf.mem hb;exact absurd (pI (bV ho) (lW I.sz h)) (uT _)
theorem Inv.cne(I:Inv X ae σ H s):∀x c,X.env.cells.lookup x=some c->c≠X.env.locals:=fun x c e z=>by
 obtain⟨v,o,ho,hd⟩:=I.cell x c e;obtain⟨m,⟨o',es,ep,ho',hd',_⟩,_⟩:=I.loc;rw[z,ho'] at ho; cases ho; rw[hd'] at hd; cases hd
theorem Inv.vf(I:Inv X ae σ H s):s.heap.FunFrames X.base X.outer:=by
 have all:∀(l:List Env),(∀b∈frs l,b∈X.fs)->X.s₀.heap.FunFrames X.base l->s.heap.FunFrames X.base l:=by
  intro l
  induction l with
  | nil=>intro _ _; trivial
  | cons env r ih=>
   intro hs hl;obtain⟨hk,⟨L,o,hf,hn,ho,hd⟩,hr⟩:=hl;have hL:L∈X.fs:=hs L (by unfold frs; rw[Ha,hf]; exact iK)
   obtain⟨sl,e⟩:=I.base.slot L o ho (I.ok.Yl L hL) hL fun z=>I.ok.Ks L z hL;exact⟨hk,⟨L,_,hf,hn,e,hd⟩,ih (fun b hb=>hs b (by unfold frs; rw[Ha,hf]; exact jb _ hb)) hr⟩
 exact all X.outer (fun _ hb=>hb) I.ok.vf
theorem Inv.stack(I:Inv X ae σ H s):s.heap.FunFrames X.base X.stack:=by
 rcases I.ok.stk with e | ⟨e,hf⟩
 ·rw[e]; exact I.vf
 ·rw[e];obtain⟨m,hn,_⟩:=I.loc;refine .cons (by rw[I.ok.kind]; decide) hf hn ?_ I.vf
  exact Heap.get?_none_of_le (lW I.ok.Qw I.ok.above)
theorem Inv.Jw(I:Inv X ae σ H s):∀b∈frs X.stack,b∈X.env.locals::X.fs:=fun b hb=>by
 rcases I.ok.stk with e | ⟨e,hf⟩
 ·rw[e] at hb; exact jb _ hb
 ·rw[e] at hb;unfold frs at hb;rw[Ha,hf] at hb;exact hb
theorem Inv.wU(I:Inv X ae σ H s):∀b∈frs X.stack,H b=none:=fun b hb=>by
 rcases bN.mp (I.Jw b hb) with e | hb
 ·rw[e]; exact I.free
 ·obtain⟨_,o,ho,_⟩:=I.ok.vf.mem hb;exact I.base.free b o ho (I.ok.Yl b hb) fun z=>I.ok.Ks b z hb
theorem Inv.step{g':Array GenState}{t':Nat}{d':Drawn}{ch:List Addr}(I:Inv X ae σ H s)
  (hch:∀b∈ch,(b∈X.ex\/X.s₀.heap.objs.size<=b)/\b≠X.env.locals/\(∀x c,X.env.cells.lookup x=some c->c≠b)/\∀p∈X.pn++ae,p.1≠b)
  (keep:∀b o,b≠X.env.locals->b∉X.fs->b∉ch->s.heap.get? b=some o->H b=none->h'.get? b=some o)
  (slot:∀b o,b≠X.env.locals->b∈X.fs->b∉ch->s.heap.get? b=some o->H b=none->∃sl,h'.get? b=some { o with slots:=sl }) (free:∀b o,b∉ch->s.heap.get? b=some o->H b=none->H' b=none)
  (there:∀b o,b∉ch->s.heap.get? b=some o->∃o',h'.get? b=some o')
  (tups:∀b xs,H b=some (.tup xs)->H' b=some (.tup xs)) (wN:∀b o u,H b=some (.tW o u)->H' b=some (.tW o u)) (Ab:∀b ps,H b=some (.Xq ps)->∃more,H' b=some (.Xq (ps++more)))
  (ns:∀m,s.heap.Ns X.env.locals m->h'.Ns X.env.locals m) (hok:lJ X.prog X.w H' h') (hg:AllBare g') :
  Inv X ae σ H' { s with heap:=h',gens:=g',drawn:=d',toks:=t' }:=by
 have neL:∀b o,X.s₀.heap.get? b=some o->b≠X.env.locals:=fun b o e=>fG (pI (bV e) I.ok.above)
 have neC:∀b o,X.s₀.heap.get? b=some o->b∉X.ex->b∉ch:=fun b o e hx hb=>by
  rcases(hch b hb).1 with z | z
  ·exact hx z
  ·exact absurd (pI (bV e) z) (uT _)
 have cellK:∀x c,X.env.cells.lookup x=some c->∀v,s.heap.IsCell c v->h'.IsCell c v:=fun x c e v ⟨o,ho,hd⟩=>by
  have nch:c∉ch:=fun z=>(hch c z).2.2.1 x c e rfl;by_cases hc:c∈X.fs
  ·obtain⟨sl,q⟩:=slot c o (I.cne x c e) hc nch ho (I.j_ x c e);exact⟨_,q,hd⟩
  ·exact⟨o,keep c o (I.cne x c e) hc nch ho (I.j_ x c e),hd⟩
 refine⟨I.ok,I.os,hg,⟨fun b o e n hb hx=>?_,fun b o e n hb hx=>?_,fun b o e n hx=>?_,fun b o e hx=>?_,fun b xs e=>tups b xs (I.base.tups b xs e),fun b o xs e=>wN b o xs (I.base.wN b o xs e),fun b ps e=>?_⟩,?_,fun x c e=>?_,?_,fun x c e=>?_,fun p hp=>?_,hok,I.len⟩
 ·exact keep b o (neL b o e) hb (neC b o e hx) (I.base.keep b o e n hb hx) (I.base.free b o e n hx)
 ·obtain⟨sl,e1⟩:=I.base.slot b o e n hb hx;obtain⟨sl',e2⟩:=slot b _ (neL b o e) hb (neC b o e hx) e1 (I.base.free b o e n hx);exact⟨sl',e2⟩
 ·obtain⟨o',e1⟩:=I.base.there b o e hx;exact free b o' (neC b o e hx) e1 (I.base.free b o e n hx)
 ·obtain⟨o',e1⟩:=I.base.there b o e hx;exact there b o' (neC b o e hx) e1
 ·obtain⟨m1,e1⟩:=I.base.Ab b ps e;obtain⟨m2,e2⟩:=Ab b _ e1;exact⟨m1++m2,by rw[e2,Array.append_assoc]⟩
 ·obtain⟨m,hn,hl⟩:=I.loc;refine⟨m,ns m hn,fun i x v e1 e2 e3=>?_⟩;obtain⟨u,r,l⟩:=hl i x v e1 e2 e3;refine⟨u,r,?_⟩;rcases l with l | ⟨k,c,e,z⟩
  ·exact .inl l
  ·exact .inr ⟨k,c,e,cellK x c e _ z⟩
 ·obtain⟨v,z⟩:=I.cell x c e;exact⟨v,cellK x c e v z⟩
 ·obtain⟨m,⟨o,_,_,ho,_⟩,_⟩:=I.loc;exact free _ o (fun z=>(hch _ z).2.1 rfl) ho I.free
 ·obtain⟨v,o,ho,hd⟩:=I.cell x c e;exact free c o (fun z=>(hch c z).2.2.1 x c e rfl) ho (I.j_ x c e)
 ·obtain⟨e,n,ne,nf,d⟩:=I.pin p hp;have nch:p.1∉ch:=fun z=>(hch p.1 z).2.2.2 p hp rfl;exact⟨keep p.1 p.2 ne nf nch e n,free p.1 p.2 nch e n,ne,nf,d⟩
theorem Inv.un{t':Nat}(I:Inv X ae σ H s)(u:Un X.fs [] H H' s.heap h')(hok:lJ X.prog X.w H' h'):Inv X ae σ H' { s with heap:=h',toks:=t' }:=by
 obtain⟨m,⟨o,es,ep,ho,r⟩,_⟩:=id I.loc;obtain⟨sl,hL⟩:=u.any ho I.free (by simp)
 exact I.step (g':=s.gens) (d':=s.drawn) (ch:=[]) (fun _ z=>nomatch z) (fun b o _ hb _ e n=>u.keep b o e n hb (by simp)) (fun b o _ hb _ e n=>u.slot b o e n hb (by simp)) (fun b o _ e n=>u.free b o e n (by simp)) (fun b o _ e=>u.there b o e (by simp)) u.tups u.wN u.Ab (fun m' hm=>by
  obtain⟨o',es',ep',ho',r'⟩:=hm;rw[ho] at ho'; cases ho'
  exact⟨_,es',ep',hL,r'⟩) hok I.bare
theorem Inv.call{g':Array GenState}{t':Nat}{d':Drawn}{ch:List Addr}(I:Inv X ae σ H s)(u:Un (frs X.stack) ch H H' s.heap h')(hok:lJ X.prog X.w H' h')(hg:AllBare g')
  (hch:∀b∈ch,(b∈X.ex\/X.s₀.heap.objs.size<=b)/\b≠X.env.locals/\(∀x c,X.env.cells.lookup x=some c->c≠b)/\∀p∈X.pn++ae,p.1≠b) :
  Inv X ae σ H' { s with heap:=h',gens:=g',drawn:=d',toks:=t' }:=by
 obtain⟨m,⟨o,es,ep,ho,r⟩,_⟩:=id I.loc;obtain⟨sl,hL⟩:=u.any ho I.free fun z=>(hch _ z).2.1 rfl
 exact I.step (ch:=ch) hch (fun b o hL hb hc e n=>u.keep b o e n (fun z=>(bN.mp (I.Jw b z)).elim hL hb) hc) (fun b o _ _ hc e n=>u.any e n hc) (fun b o hc e n=>u.free b o e n hc) (fun b o hc e=>u.there b o e hc) u.tups u.wN u.Ab (fun m' hm=>by
  obtain⟨o',es',ep',ho',r'⟩:=hm;rw[ho] at ho'; cases ho'
  exact⟨_,es',ep',hL,r'⟩) hok hg
theorem Inv.turned{t':Nat}{it:Addr}(I:Inv X ae σ H s)(k:∀b o,b≠it->s.heap.get? b=some o->h'.get? b=some o)(hn:H it=none)(hL:it≠X.env.locals)
  (h1:it∈X.ex\/X.s₀.heap.objs.size<=it) (h2:∀x c,X.env.cells.lookup x=some c->c≠it) (h3:∀p∈X.pn++ae,p.1≠it):Inv X ae σ H { s with heap:=h',toks:=t' }:=by
 have nit:∀b u,H b=some u->b≠it:=fun b u e z=>by rw[z,hn] at e; cases e
 refine I.step (g':=s.gens) (d':=s.drawn) (ch:=[it]) (fun b hb=>?_) (fun b o _ _ hc e _=>k b o (fun z=>hc (by simp[z])) e) (fun b o _ _ hc e _=>⟨o.slots,k b o (fun z=>hc (by simp[z])) e⟩) (fun _ _ _ _ n=>n)
  (fun b o hc e=>⟨o,k b o (fun z=>hc (by simp[z])) e⟩) (fun _ _ e=>e) (fun _ _ _ e=>e) (fun b ps e=>⟨#[],by rw[e]; simp⟩) (fun m hm=>?_) (fun b u e=>?_) I.bare
 ·have e:b=it:=by simpa using hb
  subst e;exact⟨h1,hL,h2,h3⟩
 ·obtain⟨o,es,ep,ho,r⟩:=hm;exact⟨o,es,ep,k _ o (Ne.symm hL) ho,r⟩
 ·refine(I.hok b u e).stay (fun c v hc q=>k c v ?_ q) (fun _ q=>q) fun _ _ q=>q;rcases hc with z | z
  ·rw[z]; exact nit b u e
  ·exact nit c _ z
theorem Inv.tok(I:Inv X ae σ H s)(t:Nat):Inv X ae σ H { s with toks:=t }:=I.un (h':=s.heap) (t':=t) Un.refl I.hok
theorem Inv.kept{t':Nat}(I:Inv X ae σ H s)(k:∀b u,s.heap.get? b=some u->h'.get? b=some u):Inv X ae σ H { s with heap:=h',toks:=t' }:=I.un (Un.kept k) (I.hok.kept k)
theorem Inv.laid{a:Addr}{o:HO}{t':Nat}(I:Inv X ae σ H s)(k:∀b u,s.heap.get? b=some u->h'.get? b=some u)(hp:s.heap.objs.size<=a)(new:bZ X.prog X.w (upd H a o) h' a o) :
  Inv X ae σ (upd H a o) { s with heap:=h',toks:=t' }:=I.un (Un.laid k hp (I.hok.fresh hp)) (I.hok.laid k hp new)
theorem Inv.write{x e:Addr}{o:HO}{t':Nat}(I:Inv X ae σ H s)(mu:Mut (H x))(he:e=x\/H e=some (.own x))(k:∀b u,b≠e->s.heap.get? b=some u->h'.get? b=some u)(heo:∃u,h'.get? e=some u)
  (new:bZ X.prog X.w (upd H x o) h' x o):Inv X ae σ (upd H x o) { s with heap:=h',toks:=t' }:=I.un (Un.write mu he k heo) (I.hok.write mu he k heo new)
theorem Inv.weak{σ':List (Option V)}(I:Inv X ae σ H s)(hl:σ'.length=σ.length)(w:∀(i:Nat) v,σ'[i]?=some (some v)->σ[i]?=some (some v)):Inv X ae σ' H s:=
 ⟨I.ok,I.os,I.bare,I.base,let ⟨m,hn,hl'⟩:=I.loc; ⟨m,hn,fun i x v e1 e2 e3=>hl' i x v e1 (w i v e2) e3⟩,I.cell,I.free,I.j_,I.pin,I.hok,hl.trans I.len⟩
theorem Inv.Mx{Yc:LA}(I:Inv X ae σ H s)(h:∀p∈Yc,s.heap.get? p.1=some p.2/\H p.1=none/\p.1≠X.env.locals/\p.1∉X.fs/\∀v,p.2.data≠.cell v):Inv X Yc σ H s:=
 ⟨I.ok,I.os,I.bare,I.base,I.loc,I.cell,I.free,I.j_,fun p hp=>(iJ.mp hp).elim (fun z=>I.pin p (RP _ z)) (h p),I.hok,I.len⟩
theorem HX{N:List Str}(hN:N.Nodup){i j:Nat}{x:Str}(a:N[i]?=some x)(b:N[j]?=some x):i=j:=by
 obtain⟨h1,e1⟩:=iY.mp a;obtain⟨h2,e2⟩:=iY.mp b;exact(List.getElem_inj hN).mp (e1.trans e2.symm)
theorem Om{M:Model}{A:Around}{E:AA->AB->Prop}{i:Nat}{x:Str}{v:V}{u:AA}{Q:Unit->AB->Prop}(I:Inv X ae σ H s)(hN:X.N.Nodup)(hi:X.N[i]?=some x)(hx:Loc X.env.scope x)(r:RelV v u)
  (h:∀s',Inv X ae (σ.set i (some v)) H s'->(∃a,Heap.SameBut a s.heap s'.heap/\(a=X.env.locals\/X.env.cells.lookup x=some a))->Q () s') (hf: autoParam (X.fn x=true\/X.env.scope.names.lookup x=some .local) zd._auto_1):wpAny M A (storeName X.env x u) Q E s:=by
 obtain⟨m,hn,hl⟩:=id I.loc;have hcls:(X.env.scope.kind==.class || (X.env.scope.kind==.module&&X.env.locals != X.env.globals))=false:=by rw[I.ok.kind]; rfl
 have hiσ:i<σ.length:=by rw[I.len]; exact(iY.mp hi).1
 have cne:=I.cne
 have tracked:∀{a:Addr}{h':Heap},(∃o,s.heap.get? a=some o/\H a=none)->Heap.SameBut a s.heap h'->lJ X.prog X.w H h':=fun {a h'} ha hs b ob e=>by
  obtain⟨_,_,hfree⟩:=ha;refine(I.hok b ob e).stay (fun c w' hc q=>(hs.2 c ?_).trans q) (fun _ q=>q) fun _ _ q=>q;rintro rfl;rcases hc with rfl | hc
  ·rw[hfree] at e; cases e
  ·rw[hfree] at hc; cases hc
 rcases hx with hk | hk
 ·refine wpAny_storeName_local hk hn (fun h' hn' hs=>?_) hcls;obtain⟨oL,_,_,hoL,_⟩:=id hn;refine h _ ⟨I.ok,I.os,I.bare,⟨fun b o e n hb hx=>?_,fun b o e n hb hx=>?_,I.base.free,fun b o e hx=>?_,I.base.tups,I.base.wN,I.base.Ab⟩,⟨_,hn',fun j y v' e1 e2 e3=>?_⟩,fun y c e=>?_,I.free,I.j_,fun p hp=>?_,tracked ⟨oL,hoL,I.free⟩ hs,by simpa using I.len⟩ ⟨_,hs,.inl rfl⟩
  ·exact(hs.2 b (fG (pI (bV e) I.ok.above))).trans (I.base.keep b o e n hb hx)
  ·obtain⟨sl,e1⟩:=I.base.slot b o e n hb hx;exact⟨sl,(hs.2 b (fG (pI (bV e) I.ok.above))).trans e1⟩
  ·obtain⟨o',e1⟩:=I.base.there b o e hx;exact⟨o',(hs.2 b (fG (pI (bV e) I.ok.above))).trans e1⟩
  ·by_cases hj:j=i
   ·subst hj;rw[hi] at e1; cases e1;rw[List.getElem?_set_self hiσ] at e2;cases e2;exact⟨u,r,.inl ⟨hk,by simp⟩⟩
   ·rw[List.getElem?_set_ne (Ne.symm hj)] at e2;obtain⟨u',r',q⟩:=hl j y v' e1 e2 e3;refine⟨u',r',?_⟩;rcases q with⟨k,e⟩ | ⟨k,c,e,z⟩
    ·refine .inl ⟨k,?_⟩;have:y≠x:=fun e=>hj (HX hN e1 (e▸hi));simp[this,e]
    ·exact .inr ⟨k,c,e,z.sameBut hs (cne y c e)⟩
  ·obtain⟨w',z⟩:=I.cell y c e;exact⟨w',z.sameBut hs (cne y c e)⟩
  ·obtain⟨e,n,ne,nf,d⟩:=I.pin p hp;exact⟨(hs.2 p.1 ne).trans e,n,ne,nf,d⟩
 ·have hfn:X.fn x=true:=by
   rcases hf with z | z
   ·exact z
   ·rw[z] at hk; cases hk
  obtain⟨c,hc⟩:=I.ok.has x (.inl hk);obtain⟨w',z⟩:=I.cell x c hc;refine wpAny_storeName_cell I.ok.kind hk hc z (fun h' hc' hs=>?_);obtain⟨oc,hoc,afR⟩:=id z;refine h { s with heap:=h' } ⟨I.ok,I.os,I.bare,⟨fun b o e n hb hx=>?_,fun b o e n hb hx=>?_,I.base.free,fun b o e hx=>?_,I.base.tups,I.base.wN,I.base.Ab⟩,⟨m,hn.sameBut hs (Ne.symm (cne x c hc)),fun j y v' e1 e2 e3=>?_⟩,fun y c' e=>?_,I.free,I.j_,fun p hp=>?_,tracked ⟨oc,hoc,I.j_ x c hc⟩ hs,by simpa using I.len⟩ ⟨c,hs,.inr hc⟩
  ·exact(hs.2 b (fG (pI (bV e) (I.ok.cab x c hfn hc)))).trans (I.base.keep b o e n hb hx)
  ·obtain⟨sl,e1⟩:=I.base.slot b o e n hb hx;exact⟨sl,(hs.2 b (fG (pI (bV e) (I.ok.cab x c hfn hc)))).trans e1⟩
  ·obtain⟨o',e1⟩:=I.base.there b o e hx;exact⟨o',(hs.2 b (fG (pI (bV e) (I.ok.cab x c hfn hc)))).trans e1⟩
  ·by_cases hj:j=i
   ·subst hj;rw[hi] at e1; cases e1;rw[List.getElem?_set_self hiσ] at e2;cases e2;exact⟨u,r,.inr ⟨.inl hk,c,hc,hc'⟩⟩
   ·rw[List.getElem?_set_ne (Ne.symm hj)] at e2;obtain⟨u',r',q⟩:=hl j y v' e1 e2 e3;refine⟨u',r',?_⟩;rcases q with q | ⟨k,c',e,z'⟩
    ·exact .inl q
    ·refine .inr ⟨k,c',e,z'.sameBut hs ?_⟩;rintro rfl;exact hj (HX hN e1 (I.ok.inj _ _ _ e hc▸hi))
  ·by_cases hcc:c'=c
   ·subst hcc; exact⟨_,hc'⟩
   ·obtain⟨w2,z2⟩:=I.cell y c' e;exact⟨w2,z2.sameBut hs hcc⟩
  ·obtain⟨e,n,ne,nf,d⟩:=I.pin p hp;refine⟨(hs.2 p.1 ?_).trans e,n,ne,nf,d⟩;intro q;rw[q,hoc] at e;have q':oc=p.2:=Option.some.inj e;exact d w' (by rw[<- q']; exact afR)
theorem iD{M:Model}{A:Around}{E:AA->AB->Prop}{i:Nat}{x:Str}{v:V}{u:AA}{Q:Unit->AB->Prop}(I:Inv X ae σ H s)(hN:X.N.Nodup)(hi:X.N[i]?=some x)(hx:Loc X.env.scope x)(r:RelV v u)
  (h:∀s',Inv X ae (σ.set i (some v)) H s'->Q () s') (hf: autoParam (X.fn x=true\/X.env.scope.names.lookup x=some .local) zd._auto_1):wpAny M A (storeName X.env x u) Q E s:=
 Om I hN hi hx r (fun s' I' _=>h s' I') hf
theorem Inv.call'{s':AB}{ch:List Addr}(I:Inv X ae σ H s)(ho:s'.os=s.os)(u:Un (frs X.stack) ch H H' s.heap s'.heap)(hok:lJ X.prog X.w H' s'.heap)(hg:AllBare s'.gens)
  (hch:∀b∈ch,(b∈X.ex\/X.s₀.heap.objs.size<=b)/\b≠X.env.locals/\(∀x c,X.env.cells.lookup x=some c->c≠b)/\∀p∈X.pn++ae,p.1≠b):Inv X ae σ H' s':=by
 obtain⟨h',g',d',t',o'⟩:=s';have e:o'=s.os:=ho;subst e;exact I.call (g':=g') (t':=t') (d':=d') u hok hg hch
end
abbrev XK:=AA->Option Addr->Hp->Prop
abbrev St:=List (Option V)
abbrev VK:=V->Hp->Prop
abbrev TE:=St->Hp->VK->Prop
abbrev TT:=St->Hp->(Bool->Hp->Prop)->Prop
abbrev TA:=St->Hp->(List V->Hp->Prop)->Prop
structure Ends where
 nx:St->Hp->Prop
 rt:VK
 bk:St->Hp->Prop:=fun _ _=>False
 ct:St->Hp->Prop:=fun _ _=>False
abbrev TS:=Ends->St->Hp->Prop
def EP(X:Cx)(ae:LA)(σ:St)(Q:VK)(u:AA)(s':AB):Prop:=∃v H',Inv X ae σ H' s'/\RelV v u/\Q v H'
def TP(X:Cx)(ae:LA)(σ:St)(Q:Bool->Hp->Prop)(b:Bool)(s':AB):Prop:=∃H',Inv X ae σ H' s'/\Q b H'
def AP(X:Cx)(ae:LA)(σ:St)(Q:List V->Hp->Prop)(us:List AA)(s':AB):Prop:=∃vs H',Inv X ae σ H' s'/\Vals vs us/\Q vs H'
def SP(X:Cx)(ae:LA)(D:Ends)(f:Flow)(s':AB):Prop:=
 match f with
 | .next=>∃σ' H',Inv X ae σ' H' s'/\D.nx σ' H'
 | .brk=>∃σ' H',Inv X ae σ' H' s'/\D.bk σ' H'
 | .cont=>∃σ' H',Inv X ae σ' H' s'/\D.ct σ' H'
 | .ret u=>∃v σ' H',Inv X ae σ' H' s'/\RelV v u/\D.rt v H'
structure PE(X:Cx)(e:Expr)(t:TE):Prop where
 mk ::
 go :
 ∀(ae:LA)(s:AB)(σ:St)(H:Hp)(Q:VK),Inv X ae σ H s->t σ H Q->wpAny (model X.prog X.w) X.A (eval e X.env) (EP X ae σ Q) X.xe s
instance {X:Cx} {e:Expr} {t:TE}:CoeFun (PE X e t) (fun _=>
 ∀(ae:LA)(s:AB)(σ:St)(H:Hp)(Q:VK),Inv X ae σ H s->t σ H Q->wpAny (model X.prog X.w) X.A (eval e X.env) (EP X ae σ Q) X.xe s):=⟨PE.go⟩
structure PT(X:Cx)(e:Expr)(t:TT):Prop where
 mk ::
 go :
 ∀(ae:LA)(s:AB)(σ:St)(H:Hp)(Q:Bool->Hp->Prop),Inv X ae σ H s->t σ H Q->wpAny (model X.prog X.w) X.A (isTrue e X.env (eval e X.env)) (TP X ae σ Q) X.xe s
instance {X:Cx} {e:Expr} {t:TT}:CoeFun (PT X e t) (fun _=>
 ∀(ae:LA)(s:AB)(σ:St)(H:Hp)(Q:Bool->Hp->Prop),Inv X ae σ H s->t σ H Q->wpAny (model X.prog X.w) X.A (isTrue e X.env (eval e X.env)) (TP X ae σ Q) X.xe s):=⟨PT.go⟩
structure PW(X:Cx)(e:Expr)(t:TT):Prop where
 mk ::
 go :
 ∀(whole:Sem AA)(ae:LA)(s:AB)(σ:St)(H:Hp)(Q:Bool->Hp->Prop),Inv X ae σ H s->t σ H Q->wpAny (model X.prog X.w) X.A (isTrue e X.env whole) (TP X ae σ Q) X.xe s
instance {X:Cx} {e:Expr} {t:TT}:CoeFun (PW X e t) (fun _=>
 ∀(whole:Sem AA)(ae:LA)(s:AB)(σ:St)(H:Hp)(Q:Bool->Hp->Prop),Inv X ae σ H s->t σ H Q->wpAny (model X.prog X.w) X.A (isTrue e X.env whole) (TP X ae σ Q) X.xe s):=⟨PW.go⟩
theorem PW.pt{X:Cx}{e:Expr}{t:TT}(h:PW X e t):PT X e t:=.mk <| h _
structure PA(X:Cx)(es:List Expr)(t:TA):Prop where
 mk ::
 go :
 ∀(pos:Pos)(ae:LA)(s:AB)(σ:St)(H:Hp)(Q:List V->Hp->Prop),Inv X ae σ H s->t σ H Q->wpAny (model X.prog X.w) X.A (spliced (backTo pos (starEach es X.env))) (AP X ae σ Q) X.xe s
instance {X:Cx} {es:List Expr} {t:TA}:CoeFun (PA X es t) (fun _=>
 ∀(pos:Pos)(ae:LA)(s:AB)(σ:St)(H:Hp)(Q:List V->Hp->Prop),Inv X ae σ H s->t σ H Q->wpAny (model X.prog X.w) X.A (spliced (backTo pos (starEach es X.env))) (AP X ae σ Q) X.xe s):=⟨PA.go⟩
structure PS(X:Cx)(st:Stmt)(t:TS):Prop where
 mk ::
 go :
 ∀(ae:LA)(s:AB)(σ:St)(H:Hp)(D:Ends),Inv X ae σ H s->t D σ H->wpAny (model X.prog X.w) X.A (exec st X.env) (SP X ae D) X.xe s
instance {X:Cx} {st:Stmt} {t:TS}:CoeFun (PS X st t) (fun _=>
 ∀(ae:LA)(s:AB)(σ:St)(H:Hp)(D:Ends),Inv X ae σ H s->t D σ H->wpAny (model X.prog X.w) X.A (exec st X.env) (SP X ae D) X.xe s):=⟨PS.go⟩
structure Dw(X:Cx)(st:List Stmt)(t:TS):Prop where
 mk ::
 go :
 ∀(ae:LA)(s:AB)(σ:St)(H:Hp)(D:Ends),Inv X ae σ H s->t D σ H->wpAny (model X.prog X.w) X.A (execs st X.env) (SP X ae D) X.xe s
instance {X:Cx} {st:List Stmt} {t:TS}:CoeFun (Dw X st t) (fun _=>
 ∀(ae:LA)(s:AB)(σ:St)(H:Hp)(D:Ends),Inv X ae σ H s->t D σ H->wpAny (model X.prog X.w) X.A (execs st X.env) (SP X ae D) X.xe s):=⟨Dw.go⟩
theorem cT{α:Type}{t:Sem α}{Q Q':α->AB->Prop}{M:Model}{A:Around}{E:AA->AB->Prop}{s:AB}(h:wpAny M A t Q E s)(hQ:∀a s,Q a s->Q' a s):wpAny M A t Q' E s:=jW h hQ fun _ _ x=>x
section
variable{X:Cx}
def qO(i:Nat):TE:=fun σ H Q=>match σ[i]? with
 | some (some v)=>Q v H
 | _=>False
theorem qO.ex{i:Nat}{σ:St}{H:Hp}{Q:VK}(h:qO i σ H Q):∃v,σ[i]?=some (some v)/\Q v H:=by
 unfold qO at h;split at h
 ·rename_i v e;exact⟨v,e,h⟩
 ·exact h.elim
def tC(v:V):TE:=fun _ H Q=>Q v H
theorem ZQ{i:Nat}{x:Str}{pos:Pos}(hN:X.N[i]?=some x)(hv:Vis X.env.scope x)(hd:((x==("__debug__" : Str))=false)⁻¹)(hcd:((x==("__classdict__" : Str))=false)⁻¹):PE X (.Name x pos) (qO i):=by
 symm;intro Q I h;obtain⟨v,e,h⟩:=qO.ex h;obtain⟨m,hn,hl⟩:=I.loc;obtain⟨u,r,l⟩:=hl i x v hN e hv;have fin:EP X ae σ Q u s:=⟨v,H,I,r,h⟩;rcases l with⟨hk,hm⟩ | ⟨hk,c,hc,hcell⟩
 ·exact wpAny_Name (wpAny_loadName_local I.ok.kind hk hn hm fin) hd
 ·rcases hk with hk | hk
  ·exact wpAny_Name (wpAny_loadName_cell I.ok.kind hk hc hcell fin) hd
  ·exact wpAny_Name (wpAny_loadName_free I.ok.kind hk hc hcell fin hcd) hd
theorem aq{i j pos}:PE X (.Constant (.int i) j pos) (tC (.int i)):=.mk <| fun _ _ _ H _ I h=>wpAny_Constant_int ⟨.int i,H,I.tok _,⟨_,rfl⟩,h⟩
theorem jo{b j pos}:PE X (.Constant (.bool b) j pos) (tC (.bl b)):=.mk <| fun _ _ _ H _ I h=>Constant_bool ⟨.bl b,H,I,rfl,h⟩
theorem gf{j pos}:PE X (.Constant .none j pos) (tC .non):=.mk <| fun _ _ _ H _ I h=>Constant_none ⟨.non,H,I,rfl,h⟩
theorem fu{x j pos}:PE X (.Constant (.str x) j pos) (tC (.str x)):=.mk <| fun _ _ _ H _ I h=>Calls.Constant_str ⟨.str x,H,I.tok _,⟨_,rfl⟩,h⟩
def Gl(X:Cx)(x:Str):Prop:=X.env.kindOf x=some .globalImplicit
theorem tO{E:AA->AB->Prop}{ae:LA}{s:AB}{σ:St}{H:Hp}{x:Str}{u:AA}{pos:Pos}{Q:AA->AB->Prop}(I:Inv X ae σ H s)(hg:Gl X x)(hm:X.mg x=some u)(h:Q u s)
  (hd:((x==("__debug__" : Str))=false)⁻¹):wpAny (model X.prog X.w) X.A (eval (.Name x pos) X.env) Q E s:=
 Calls.Name_function_global I.ok.kind hg (Calls.loadGlobal_global (by rw[I.ok.glob]; exact I.mod.glob.keeps I.bk) hm h) hd
theorem jy{E:AA->AB->Prop}{ae:LA}{s:AB}{σ:St}{H:Hp}{x:Str}{u:AA}{pos:Pos}{Q:AA->AB->Prop}(I:Inv X ae σ H s)(hg:Gl X x)(hm:X.mg x=none)(hv:bootBuiltins x=some u)(h:Q u s)
  (hn:(x ≠ "__name__")⁻¹) (hd:((x==("__debug__" : Str))=false)⁻¹):wpAny (model X.prog X.w) X.A (eval (.Name x pos) X.env) Q E s:=by
 obtain⟨mb,h1,h2⟩:=I.mod.blt;exact Calls.Name_function_global I.ok.kind hg (Calls.loadGlobal_builtin (by rw[I.ok.glob]; exact I.mod.glob.keeps I.bk) hm (by rw[I.ok.blt]; exact h1.keeps I.bk) ((h2 x hn).trans hv) h) hd
theorem Em{x:Str}{v:V}{u:AA}{pos:Pos}(hg:Gl X x)(hm:X.mg x=some u)(r:RelV v u)(hd:((x==("__debug__" : Str))=false)⁻¹):PE X (.Name x pos) (tC v):=
 .mk <| fun _ _ _ H _ I h=>tO I hg hm ⟨v,H,I,r,h⟩ hd
theorem Wg{x:Str}{v:V}{u:AA}{pos:Pos}(hg:Gl X x)(hm:X.mg x=none)(hv:bootBuiltins x=some u)(r:RelV v u)(hn:(x ≠ "__name__")⁻¹)(hd:((x==("__debug__" : Str))=false)⁻¹):PE X (.Name x pos) (tC v):=
 .mk <| fun _ _ _ H _ I h=>jy I hg hm hv ⟨v,H,I,r,h⟩ hn hd
variable{a b:Expr}{ta tb:TE}{pos:Pos}
def tB(t:TE):TT:=fun σ H Q=>t σ H fun x H1=>∃c,x=.bl c/\Q c H1
theorem dX{e:Expr}{t:TE}(h:PE X e t)(he:‹∀whole,isTrue e X.env whole=(do let v <- whole; standAt e.pos; holding [v] (truthy v))›):PT X e (tB t):=by
 symm;intro Q I hw;refine isTrue_plain (cT (h ae s σ H _ I hw) fun v s1 ⟨x,H1,I1,r1,q1⟩=>?_) (he _);obtain⟨d,rfl,q⟩:=q1;cases r1;exact G_ ⟨H1,I1,q⟩
variable{tA tB':TT}{rest:List Expr}
def abU(t u:TT):TT:=fun σ H Q=>t σ H fun c H1=>if c=true then u σ H1 Q else Q false H1
def tOr(t u:TT):TT:=fun σ H Q=>t σ H fun c H1=>if c=true then Q true H1 else u σ H1 Q
def abP(t:TT):TT:=fun σ H Q=>t σ H fun c H1=>Q (!c) H1
theorem m9(ha:PT X a tA):PW X (.BoolOp .And [a] pos) tA:=by
 refine .mk ?_;intro wh ae s σ H Q I h;refine isTrue_and (cT (ha ae s σ H Q I h) fun c s1 e=>?_);cases c with
 | true=>exact isTrue_and_nil e
 | false=>exact e
theorem rD(ha:PT X a tA):PW X (.BoolOp .Or [a] pos) tA:=by
 refine .mk ?_;intro wh ae s σ H Q I h;refine isTrue_or (cT (ha ae s σ H Q I h) fun c s1 e=>?_);cases c with
 | false=>exact isTrue_or_nil e
 | true=>exact e
theorem rE(ha:PT X a tA)(hb:PW X (.BoolOp .And (b::rest) pos) tB'):PW X (.BoolOp .And (a::b::rest) pos) (abU tA tB'):=by
 refine .mk ?_;intro wh ae s σ H Q I h;refine isTrue_and (cT (ha ae s σ H _ I h) fun c s1 qx=>?_);obtain⟨H1,I1,q1⟩:=qx;cases c with
 | true=>exact hb wh ae s1 σ H1 Q I1 q1
 | false=>exact⟨H1,I1,q1⟩
theorem yC(ha:PT X a tA)(hb:PW X (.BoolOp .Or (b::rest) pos) tB'):PW X (.BoolOp .Or (a::b::rest) pos) (tOr tA tB'):=by
 refine .mk ?_;intro wh ae s σ H Q I h;refine isTrue_or (cT (ha ae s σ H _ I h) fun c s1 qx=>?_);obtain⟨H1,I1,q1⟩:=qx;cases c with
 | true=>exact⟨H1,I1,q1⟩
 | false=>exact hb wh ae s1 σ H1 Q I1 q1
theorem jc(ha:PT X a tA):PT X (.UnaryOp .Not a pos) (abP tA):=by
 symm;intro Q I h;exact isTrue_not (ha ae s σ H (fun c H1=>Q (!c) H1) I h)
def XJ(ta tb:TE):TE:=fun σ H Q=>ta σ H fun x H1=>∃c,x=.bl c/\if c=true then tb σ H1 Q else Q (.bl false) H1
def aeR(ta tb:TE):TE:=fun σ H Q=>ta σ H fun x H1=>∃c,x=.bl c/\if c=true then Q (.bl true) H1 else tb σ H1 Q
def Xy(ta:TE):TE:=fun σ H Q=>ta σ H fun x H1=>∃c,x=.bl c/\Q (.bl (!c)) H1
theorem JT{op}{t:TE}(h:PE X a t):PE X (.BoolOp op [a] pos) t:=.mk <| fun ae s σ H Q I hw=>BoolOp_one (h ae s σ H Q I hw)
theorem yF(ha:PE X a ta)(hb:PE X (.BoolOp .And (b::rest) pos) tb):PE X (.BoolOp .And (a::b::rest) pos) (XJ ta tb):=by
 symm;intro Q I h;refine BoolOp_and (cT (ha ae s σ H _ I h) fun v s1 qx=>?_);obtain⟨x,H1,I1,r1,q1⟩:=qx;obtain⟨c,rfl,q1⟩:=q1;cases r1;refine G_ ?_;cases c with
 | true=>exact hb ae s1 σ H1 Q I1 q1
 | false=>exact⟨.bl false,H1,I1,rfl,q1⟩
theorem ZR(ha:PE X a ta):PE X (.UnaryOp .Not a pos) (Xy ta):=by
 symm;intro Q I h;refine UnaryOp_ (cT (ha ae s σ H _ I h) fun v s1 qx=>?_);obtain⟨x,H1,I1,r1,q1⟩:=qx;obtain⟨c,rfl,q1⟩:=q1;cases r1;exact not_of (G_ ⟨.bl (!c),H1,I1,rfl,q1⟩)
def tIf(t:TT)(ta tb:TE):TE:=fun σ H Q=>t σ H fun c H1=>if c=true then ta σ H1 Q else tb σ H1 Q
theorem cg{c:Expr}(hc:PT X c tA)(ha:PE X a ta)(hb:PE X b tb):PE X (.IfExp c a b pos) (tIf tA ta tb):=by
 symm;intro Q I h;refine wpAny_IfExp (cT (hc ae s σ H _ I h) fun d s1 qx=>?_);obtain⟨H1,I1,q1⟩:=qx;cases d with
 | true=>exact ha ae s1 σ H1 Q I1 q1
 | false=>exact hb ae s1 σ H1 Q I1 q1
end
def cG(K:Frag)(H:Hp)(a:Addr)(xs:List V):Prop:=
 Rd H a (.lst xs) \/
  ∃(o:Obj)(its:Array AA)(n:Nat),K.lookup a=some o/\o.cls=.type "list" /\ o.dict=none/\o.data=.seq its n/\its.size<=sizeLine/\Vals xs its.toList
def eX(K:Frag)(H:Hp)(a:Addr)(xs:List V):Prop:=
 Rd H a (.tup xs) \/
  ∃(o:Obj)(its:Array AA)(n:Nat),K.lookup a=some o/\o.cls=.type "tuple" /\ o.data=.seq its n/\its.size<=sizeLine/\Vals xs its.toList
def agO:AA->Option V
 | .none=>some .non
 | .bool b=>some (.bl b)
 | .int i _=>some (.int i)
 | .str x _=>some (.str x)
 | .bytes b _=>some (.Qv b)
 | .float b _=>some (.flt b)
 | .ref a=>some (.ref a)
 | .type n=>some (.ty n)
 | _=>none
theorem RelV.abs{x:V}{u:AA}(r:RelV x u):agO u=some x:=by
 cases x with
 | non=>cases r; rfl
 | bl _=>cases r; rfl
 | int _=>obtain⟨t,rfl⟩:=r; rfl
 | str _=>obtain⟨t,rfl⟩:=r; rfl
 | Qv _=>obtain⟨t,rfl⟩:=r; rfl
 | flt _=>obtain⟨t,rfl⟩:=r; rfl
 | ref _=>cases r; rfl
 | ty _=>cases r; rfl
theorem RelV.inj{x y:V}{u:AA}(r:RelV x u)(q:RelV y u):x=y:=Option.some.inj (r.abs.symm.trans q.abs)
theorem Vals.inj:∀{xs ys:List V}{us:List AA},Vals xs us->Vals ys us->xs=ys
 | _,_,_,.nil,.nil=>rfl
 | _,_,_,.cons r t,.cons r' t'=>by rw[r.inj r',Vals.inj t t']
section
variable{X:Cx}{ae:LA}{σ:St}{H:Hp}{s:AB}{a:Addr}{xs ys:List V}
theorem cG.of{K:Frag}(h:H a=some (.lst xs)):cG K H a xs:=.inl (.inl h)
theorem eX.of{K:Frag}(h:H a=some (.tup xs)):eX K H a xs:=.inl (.inl h)
theorem Inv.list(I:Inv X ae σ H s)(h:cG X.K H a xs):∃its:List AA,Vals xs its/\PlainL s.heap a its.toArray/\xs.length<=sizeLine:=by
 rcases h with h | ⟨o,its,n,hk,hc,hd,hs,hz,r⟩
 ·obtain⟨z,its,n,r,e⟩:=h.ok I.hok;exact⟨its,r,⟨_,n,e,rfl,rfl,rfl⟩,z⟩
 ·refine⟨its.toList,r,⟨o,n,I.mL a o hk,hc,hd,by simpa using hs⟩,?_⟩
  have e:=r.length;simp only[Array.length_toList] at e;omega
theorem Inv.tuple(I:Inv X ae σ H s)(h:eX X.K H a xs):∃its:List AA,Vals xs its/\IsTup s.heap a its.toArray/\xs.length<=sizeLine:=by
 rcases h with h | ⟨o,its,n,hk,hc,hs,hz,r⟩
 ·obtain⟨z,its,r,p⟩:=h.ok I.hok;exact⟨its,r,p,z⟩
 ·refine⟨its.toList,r,⟨o,I.mL a o hk,hc,n,by simpa using hs⟩,?_⟩
  have e:=r.length;simp only[Array.length_toList] at e;omega
theorem Inv.y_(I:Inv X ae σ H s)(h:cG X.K H a xs)(h':cG X.K H a ys):xs=ys:=by
 obtain⟨its,r,⟨o,n,e,_,_,d⟩,_⟩:=I.list h;obtain⟨its',r',⟨o',n',e',_,_,d'⟩,_⟩:=I.list h';rw[e] at e'; cases e';rw[d] at d';injection d' with d1 _
 have:its=its':=by simpa using m8 Array.toList d1
 subst this;exact r.inj r'
theorem Inv.BK(I:Inv X ae σ H s)(h:eX X.K H a xs)(h':eX X.K H a ys):xs=ys:=by
 obtain⟨its,r,⟨o,e,_,n,d⟩,_⟩:=I.tuple h;obtain⟨its',r',⟨o',e',_,n',d'⟩,_⟩:=I.tuple h';rw[e] at e'; cases e';rw[d] at d';injection d' with d1 _
 have:its=its':=by simpa using m8 Array.toList d1
 subst this;exact r.inj r'
end
abbrev Cx.wish(X:Cx)(E:AA->AB->Prop):Cx:={ X with xe:=E }
abbrev Cx.nox(X:Cx):Cx:=X.wish fun _ _=>False
theorem Cx.Ok.wish{X:Cx}(ok:X.Ok)(E:AA->AB->Prop):(X.wish E).Ok:=
 ⟨ok.mod,ok.kind,ok.glob,ok.blt,ok.above,ok.inj,ok.has,ok.cab,ok.hd,ok.frames,ok.stk,ok.exf,ok.bs,ok.Qw,ok.HW,ok.Ks,ok.vf,ok.Yl⟩
theorem Cx.Ok.oG{X:Cx}{E:AA->AB->Prop}(ok:(X.wish E).Ok):X.Ok:=
 ⟨ok.mod,ok.kind,ok.glob,ok.blt,ok.above,ok.inj,ok.has,ok.cab,ok.hd,ok.frames,ok.stk,ok.exf,ok.bs,ok.Qw,ok.HW,ok.Ks,ok.vf,ok.Yl⟩
section
variable{X:Cx}{ae:LA}{σ:St}{H:Hp}{s:AB}{E:AA->AB->Prop}
theorem Inv.wish(I:Inv X ae σ H s)(E:AA->AB->Prop):Inv (X.wish E) ae σ H s:=⟨I.ok.wish E,I.os,I.bare,I.base,I.loc,I.cell,I.free,I.j_,I.pin,I.hok,I.len⟩
theorem Inv.oG(I:Inv (X.wish E) ae σ H s):Inv X ae σ H s:=⟨I.ok.oG,I.os,I.bare,I.base,I.loc,I.cell,I.free,I.j_,I.pin,I.hok,I.len⟩
theorem SP.oG{D:Ends}{f:Flow}{s':AB}(h:SP (X.wish E) ae D f s'):SP X ae D f s':=by
 cases f with
 | next=>obtain⟨σ',H',I,q⟩:=h; exact⟨σ',H',I.oG,q⟩
 | brk=>obtain⟨σ',H',I,q⟩:=h; exact⟨σ',H',I.oG,q⟩
 | cont=>obtain⟨σ',H',I,q⟩:=h; exact⟨σ',H',I.oG,q⟩
 | ret u=>obtain⟨v,σ',H',I,r,q⟩:=h; exact⟨v,σ',H',I.oG,r,q⟩
theorem Dw.nox{st:List Stmt}{t:TS}(h:Dw X.nox st t):Dw X st t:=.mk <| fun ae s σ H D I hw=>
 jW (h ae s σ H D (I.wish _) hw) (fun _ _ q=>q.oG) fun _ _ z=>False.elim z
end
section
variable{X:Cx}{st:Stmt}{rest:List Stmt}{t u:TS}{e:Expr}{te:TE}{pos:Pos}
def Xz:TS:=fun D σ H=>D.nx σ H
def qP(t u:TS):TS:=fun D σ H=>t { D with nx:=u D } σ H
theorem bD:Dw X [] Xz:=.mk <| fun _ _ σ H _ I h=>Hq ⟨σ,H,I,h⟩
theorem aA(h1:PS X st t)(h2:Dw X rest u):Dw X (st::rest) (qP t u):=by
 symm;intro D I h;refine wpAny_execs_cons (cT (h1 ae s σ H { D with nx:=u D } I h) fun f s1 q=>?_)
 cases f with
 | next=>
  obtain⟨σ',H',I',q⟩:=q;exact h2 ae s1 σ' H' D I' q
 | ret v=>exact q
 | brk=>exact q
 | cont=>exact q
theorem aH(h1:PS X st t):Dw X [st] t:=by
 symm;intro D I h;refine wpAny_execs_cons (cT (h1 ae s σ H D I h) fun f s1 q=>?_);cases f with
 | next=>exact Hq q
 | ret v=>exact q
 | brk=>exact q
 | cont=>exact q
theorem Inv.quiet{ae:LA}{σ:St}{H:Hp}{s:AB}(I:Inv X ae σ H s):interactive X.env=false:=by simp[interactive,I.ok.kind]
def XF(te:TE):TS:=fun D σ H=>te σ H fun _ H1=>D.nx σ H1
theorem cQ(he:PE X e te)(hs: ~~~(swapsWith e none pos.line X.env=pure false)):PS X (.Expr e pos) (XF te):=by
 symm;intro D I h;exact wpAny_Expr_any (cT (he ae s σ H _ I h) fun v s1 ⟨x,H1,I1,r1,q1⟩=>⟨σ,H1,I1,q1⟩) I.quiet hs
def abN(te:TE):TS:=fun D σ H=>te σ H D.rt
theorem bw(he:PE X e te):PS X (.Return (some e) pos) (abN te):=by
 symm;intro D I h;exact wpAny_Return_some (cT (he ae s σ H _ I h) fun v s1 ⟨x,H1,I1,r1,q1⟩=>⟨x,σ,H1,I1,r1,q1⟩)
def abM:TS:=fun D _ H=>D.rt .non H
def Vo(c:TT)(t u:TS):TS:=fun D σ H=>c σ H fun b H1=>if b=true then t D σ H1 else u D σ H1
theorem b_{c:Expr}{a b:List Stmt}{tc:TT}(hc:PT X c tc)(ha:Dw X a t)(hb:Dw X b u):PS X (.If c a b pos) (Vo tc t u):=by
 symm;intro D I h;refine wpAny_If (cT (hc ae s σ H _ I h) fun d s1 qx=>?_);obtain⟨H1,I1,q1⟩:=qx;cases d with
 | true=>exact ha ae s1 σ H1 D I1 q1
 | false=>exact hb ae s1 σ H1 D I1 q1
end
abbrev TG:=V->St->Hp->(St->Hp->Prop)->Prop
abbrev QC:=List V->St->Hp->(St->Hp->Prop)->Prop
structure PG(X:Cx)(target:Expr)(t:TG):Prop where
 mk ::
 go :
 ∀(ae:LA)(s:AB)(σ:St)(H:Hp)(v:V)(u:AA)(Q:St->Hp->Prop),Inv X ae σ H s->RelV v u->t v σ H Q ->
  wpAny (model X.prog X.w) X.A (assign target X.env u) (fun _ s'=>∃σ' H',Inv X ae σ' H' s'/\Q σ' H') X.xe s
instance {X:Cx} {target:Expr} {t:TG}:CoeFun (PG X target t) (fun _=>
 ∀(ae:LA)(s:AB)(σ:St)(H:Hp)(v:V)(u:AA)(Q:St->Hp->Prop),Inv X ae σ H s->RelV v u->t v σ H Q ->
  wpAny (model X.prog X.w) X.A (assign target X.env u) (fun _ s'=>∃σ' H',Inv X ae σ' H' s'/\Q σ' H') X.xe s):=⟨PG.go⟩
structure Yy(X:Cx)(ts:List Expr)(t:QC):Prop where
 mk ::
 go :
 ∀(ae:LA)(s:AB)(σ:St)(H:Hp)(vs:List V)(us:List AA)(Q:St->Hp->Prop),Inv X ae σ H s->Vals vs us->t vs σ H Q ->
  wpAny (model X.prog X.w) X.A (assignInOrder ((assignEach ts X.env).map (·.2)) us) (fun _ s'=>∃σ' H',Inv X ae σ' H' s'/\Q σ' H') X.xe s
instance {X:Cx} {ts:List Expr} {t:QC}:CoeFun (Yy X ts t) (fun _=>
 ∀(ae:LA)(s:AB)(σ:St)(H:Hp)(vs:List V)(us:List AA)(Q:St->Hp->Prop),Inv X ae σ H s->Vals vs us->t vs σ H Q ->
  wpAny (model X.prog X.w) X.A (assignInOrder ((assignEach ts X.env).map (·.2)) us) (fun _ s'=>∃σ' H',Inv X ae σ' H' s'/\Q σ' H') X.xe s):=⟨Yy.go⟩
abbrev Qz:=V->V->V->Hp->(Hp->Prop)->Prop
structure QG(X:Cx)(t:Qz):Prop where
 mk ::
 go :
 ∀(ae:LA)(s:AB)(σ:St)(H:Hp)(o i v:V)(ov iv u:AA)(Q:Hp->Prop),Inv X ae σ H s->RelV o ov->RelV i iv->RelV v u->t o i v H Q ->
  wpAny (model X.prog X.w) X.A (setItem ov iv u) (fun _ s'=>∃H',Inv X ae σ H' s'/\Q H') X.xe s
instance {X:Cx} {t:Qz}:CoeFun (QG X t) (fun _=>
 ∀(ae:LA)(s:AB)(σ:St)(H:Hp)(o i v:V)(ov iv u:AA)(Q:Hp->Prop),Inv X ae σ H s->RelV o ov->RelV i iv->RelV v u->t o i v H Q ->
  wpAny (model X.prog X.w) X.A (setItem ov iv u) (fun _ s'=>∃H',Inv X ae σ H' s'/\Q H') X.xe s):=⟨QG.go⟩
abbrev TIp:=V->V->Hp->VK->Prop
def PIp(X:Cx)(op:Operator)(t:TIp):Prop:=
 ∀(ae:LA)(s:AB)(σ:St)(H:Hp)(x y:V)(v u:AA)(Q:VK),Inv X ae σ H s->RelV x v->RelV y u->t x y H Q ->
  wpAny (model X.prog X.w) X.A (inplaceOp op v u) (EP X ae σ Q) X.xe s
section
variable{X:Cx}{pos:Pos}
def eO(i:Nat):TG:=fun v σ H Q=>Q (σ.set i (some v)) H
theorem aG{i:Nat}{x:Str}(hN: autoParam (X.N.Nodup) ze._auto_1)(hi: ~~~(X.N[i]?=some x))(hx: autoParam (Loc X.env.scope x) zf._auto_1)(hf: autoParam (X.fn x=true\/X.env.scope.names.lookup x=some .local) zd._auto_1):PG X (.Name x pos) (eO i):=by
 symm;intro v u Q I r h;exact wpAny_assign_Name (iD I hN hi hx r (fun s' I'=>⟨_,H,I',h⟩) hf)
theorem aGN (L:List Str) (i:Nat){x:Str}(hN: ~~~(X.N=L))(hd:(L.Nodup)⁻¹)(hi: ~~~(L[i]?=some x))(hx:Loc X.env.scope x:=by exact .inl (gF rfl))(hf:X.fn x=true\/X.env.scope.names.lookup x=some .local:=by exact .inr (gF rfl)):PG X (.Name x pos) (eO i):=aG (by rw[hN]; exact hd) (by rw[hN]; exact hi) hx hf
def Bc:QC:=fun vs σ H Q=>match vs with
 | []=>Q σ H
 | _=>False
theorem Bc.ex{vs:List V}{σ:St}{H:Hp}{Q:St->Hp->Prop}(h:Bc vs σ H Q):vs=[]/\Q σ H:=by
 cases vs with
 | nil=>exact⟨rfl,h⟩
 | cons a b=>exact h.elim
def jA(t:TG)(u:QC):QC:=fun vs σ H Q=>match vs with
 | v::r=>t v σ H fun σ' H'=>u r σ' H' Q
 | []=>False
theorem jA.ex{t:TG}{u:QC}{vs:List V}{σ:St}{H:Hp}{Q:St->Hp->Prop}(h:jA t u vs σ H Q):∃v r,vs=v::r/\t v σ H fun σ' H'=>u r σ' H' Q:=by
 cases vs with
 | nil=>exact h.elim
 | cons a b=>exact⟨a,b,rfl,h⟩
theorem bG:Yy X [] Bc:=by
 symm;intro vs us Q I r h;obtain⟨e,h⟩:=Bc.ex h;subst e;cases r;exact assignInOrder_nil ⟨σ,H,I,h⟩
theorem aF{e:Expr}{es:List Expr}{t:TG}{u:QC}(h1:PG X e t)(h2:Yy X es u)
  (hs: ~~~((assignEach (e::es) X.env).map (·.2)=assign e X.env::(assignEach es X.env).map (·.2))):Yy X (e::es) (jA t u):=by
 symm;intro vs us Q I r h;obtain⟨v,vr,e1,h⟩:=jA.ex h;subst e1;cases r with
 | cons r rr=>
  rw[hs];refine assignInOrder_cons (cT (h1 ae s σ H _ _ _ I r h) fun _ s1 qx=>?_);obtain⟨σ1,H1,I1,q1⟩:=qx;exact h2 ae s1 σ1 H1 _ _ Q I1 rr q1
def Kp(K:Frag)(n:Nat)(t:QC):TG:=fun v σ H Q=>∃a xs,v=.ref a/\eX K H a xs/\xs.length=n/\t xs σ H Q
theorem ZP{es:List Expr}{k:Nat}{t:QC}{n:Nat}(hc:X.calm=true)(h:Yy X es t)
  (hn: ~~~((assignEach es X.env).length=n)) (hst: ~~~((assignEach es X.env).findIdx? (·.1)=none)):PG X (.Tuple es k pos) (Kp X.K n t):=by
 symm;intro v u Q I r hw;obtain⟨a,xs,e1,hq,hl,hw⟩:=hw;subst e1;cases r;obtain⟨its,rv,ht,hz⟩:=I.tuple hq;refine assign_Tuple_tuple (I.ok.hd hc) ht (by simp[hn,<- hl,rv.length]) hst fun h' hx=>?_
 have I1:Inv X ae σ H { s with heap:=h' }:=I.kept (t':=s.toks) fun b o e=>hx b o (fG (bV e)) e
 exact h ae _ σ H xs _ Q I1 (by simpa using rv) hw
def ac0(to ti:TE)(t:Qz):TG:=fun v σ H Q=>to σ H fun o H1=>ti σ H1 fun i H2=>t o i v H2 fun H3=>Q σ H3
theorem jw{o i:Expr}{to ti:TE}{t:Qz}(ho:PE X o to)(hi:PE X i ti)(hs:QG X t)
  (ha:‹∀v,assign (.Subscript o i pos) X.env v=(do
   let ov <- holding [v] (eval o X.env)
   let iv <- holding [v,ov] (eval i X.env)
   standAt pos
   holding [v,ov,iv] (setItem ov iv v)
   release [v,ov,iv] [])›):PG X (.Subscript o i pos) (ac0 to ti t):=by
 symm;intro v u Q I r h;rw[ha];refine bh (jX (cT (ho ae s σ H _ I h) fun ov s1 qx=>?_));obtain⟨x,H1,I1,r1,q1⟩:=qx;refine bh (jX (cT (hi ae s1 σ H1 _ I1 q1) fun iv s2 qx=>?_));obtain⟨y,H2,I2,r2,q2⟩:=qx;refine bh (Ag (bh (jX (cT (hs ae s2 σ H2 x y v ov iv u _ I2 r1 r2 r q2) fun _ s3 qx=>?_))));obtain⟨H3,I3,q3⟩:=qx;exact wpAny_release ⟨σ,H3,I3,q3⟩
def DP(te:TE)(g:TG):TS:=fun D σ H=>te σ H fun x H1=>g x σ H1 D.nx
theorem cI{tg e:Expr}{te:TE}{g:TG}(he:PE X e te)(hg:PG X tg g)(hs: ~~~(swapsWithSole [tg] e pos.line X.env=pure false))(hw: ~~~(swappedStores [tg] e X.env=pure none))
  (h1: ~~~((assignEach [tg] X.env).map (·.2)=[assign tg X.env])):PS X (.Assign [tg] e pos) (DP te g):=by
 symm;intro D I h;refine wpAny_Assign_stores (cT (he ae s σ H _ I h) fun v s1 ⟨x,H1,I1,r1,q1⟩=>?_) hs hw;rw[h1];exact cT (hg ae s1 σ H1 x v _ I1 r1 q1) fun _ s2 q=>q
theorem aW{i:Nat}{x:Str}{e:Expr}{te:TE}{pos':Pos}(he:PE X e te)(hN: autoParam (X.N.Nodup) ze._auto_1)(hi: ~~~(X.N[i]?=some x))(hx: autoParam (Loc X.env.scope x) zf._auto_1)(hs: ~~~(swapsWith e (some (.Name x pos')) pos.line X.env=pure false))(hf: autoParam (X.fn x=true\/X.env.scope.names.lookup x=some .local) zd._auto_1) :
  PS X (.Assign [.Name x pos'] e pos) (DP te (eO i)):=by
 symm;intro D I h;refine wpAny_Assign_Name (cT (he ae s σ H _ I h) fun v s1 ⟨y,H1,I1,r1,q1⟩=>?_) hs;exact iD I1 hN hi hx r1 (fun s2 I2=>⟨_,H1,I2,q1⟩) hf
def abO(i j:Nat)(ta:TA):TS:=fun D σ H=>ta σ H fun vs H1=>∃v w,vs=[v,w]/\D.nx ((σ.set i (some v)).set j (some w)) H1
theorem pJ{i j:Nat}{x y:Str}{a b:Expr}{ta:TA}{px py pt:Pos}{kt k2 ZC}(hc:X.calm=true)(hN:X.N.Nodup)(hi:X.N[i]?=some x)(hj:X.N[j]?=some y)(hij:i≠j)
  (hx:X.env.scope.names.lookup x=some .local) (hy:X.env.scope.names.lookup y=some .local) (ha:PA X [a,b] ta)
  (hw:swappedStores [.Tuple [.Name x px,.Name y py] kt pt] (.Tuple [a,b] k2 ZC) X.env=pure (some [x,y]))
  (hs: ~~~(swapsWithSole [.Tuple [.Name x px,.Name y py] kt pt] (.Tuple [a,b] k2 ZC) pos.line X.env=pure false)) :
  PS X (.Assign [.Tuple [.Name x px,.Name y py] kt pt] (.Tuple [a,b] k2 ZC) pos) (abO i j ta):=by
 symm;intro D I h;rw[exec_Assign_arm];refine bh (Ag ?_);rw[hs];refine bh (cH ?_);rw[aQ ⋯]
 refine bh (Tuple_ (cT (ha _ ae s σ H _ I h) fun us s1 qx=>?_));obtain⟨vs,H1,I1,r1,q1⟩:=qx;obtain⟨v,w,e1,q1⟩:=q1;subst e1
 obtain⟨u1,u2,rfl,rv,D_⟩:∃u1 u2,us=[u1,u2]/\RelV v u1/\RelV w u2:=by
  cases r1 with
  | cons p q=>
   cases q with
   | cons p' q'=>
    cases q';exact⟨_,_,rfl,p,p'⟩
 refine uU ?_ (by show 2<=sizeLine; decide)
 have I2:Inv X ae σ H1 { s1 with heap:=s1.heap.push { cls:=.type "tuple",data:=.seq [u1,u2].toArray } }:=I1.kept (t':=s1.toks) fun b o e=>eF _ e
 rw[hw];refine bh (cH ?_);show wpAny (model X.prog X.w) X.A (do rule "assign.swapped-stores"; let items <- unpackItems (.ref s1.heap.objs.size) 2 none; assignInOrder [fun v=>bindName X.env y v,fun v=>bindName X.env x v] items.reverse; pure Flow.next) _ _ _
 refine bh (Ae (bh (unpackItems_tuple (items:=#[u1,u2]) (I.ok.hd hc) (IsTup.new s1.heap _) fun h' hx'=>?_)));have I3:=I2.kept (h':=h') (t':=s1.toks) fun b o e=>hx' b o (fG (bV e)) e;show wpAny _ _ (assignInOrder [fun v=>bindName X.env y v,fun v=>bindName X.env x v] [u2,u1] >>= fun _=>pure Flow.next) _ _ _;refine bh (assignInOrder_cons (Hk (iD I3 hN hj (.inl hy) D_ (fun s2 I4=>?_) (.inr hy))));refine assignInOrder_cons (Hk (iD I4 hN hi (.inl hx) rv (fun s3 I5=>assignInOrder_nil (cH ?_)) (.inr hx)));rw[List.set_comm _ _ (Ne.symm hij)] at I5;exact⟨_,H1,I5,q1⟩
def abT(i:Nat)(te:TE)(ti:TIp):TS:=fun D σ H=>∃x,σ[i]?=some (some x)/\te σ H fun y H1=>ti x y H1 fun z H2=>D.nx (σ.set i (some z)) H2
theorem Eh{i:Nat}{x:Str}{e:Expr}{te:TE}{op:Operator}{ti:TIp}{pos':Pos}(hN:X.N.Nodup)(hi:X.N[i]?=some x)(hx:Loc X.env.scope x)(he:PE X e te)(ho:PIp X op ti)(hf: autoParam (X.fn x=true\/X.env.scope.names.lookup x=some .local) zd._auto_1) :
  PS X (.AugAssign (.Name x pos') op e pos) (abT i te ti):=by
 symm;intro D I h;obtain⟨v,e1,h⟩:=h;obtain⟨m,hn,hl⟩:=I.loc;have vis:Vis X.env.scope x:=by rcases hx with k | k; exact .inl k; exact .inr (.inl k)
 obtain⟨u,r,l⟩:=hl i x v hi e1 vis;refine wpAny_AugAssign_Name ?_
 have go:wpAny (model X.prog X.w) X.A (eval e X.env) (fun w s₂=>wpAny (model X.prog X.w) X.A (inplaceOp op u w) (fun r s₃=>wpAny (model X.prog X.w) X.A (storeName X.env x r) (fun _=>SP X ae D .next) X.xe s₃) X.xe s₂) X.xe s:=by
  refine cT (he ae s σ H _ I h) fun w s1 qx=>?_;obtain⟨y,H1,I1,r1,q1⟩:=qx;refine cT (ho ae s1 σ H1 v y u w _ I1 r r1 q1) fun z s2 qx=>?_;obtain⟨zv,H2,I2,r2,q2⟩:=qx;exact iD I2 hN hi hx r2 (fun s3 I3=>⟨_,H2,I3,q2⟩) hf
 rcases l with⟨hk,hm⟩ | ⟨hk,c,hc,hcell⟩
 ·exact wpAny_loadName_local I.ok.kind hk hn hm go
 ·rcases hk with hk | hk
  ·exact wpAny_loadName_cell I.ok.kind hk hc hcell go
  ·rcases hx with k | k
   ·have:X.env.scope.names.lookup x=some .free:=hk;rw[k] at this; cases this
   ·have:X.env.scope.names.lookup x=some .free:=hk;rw[k] at this; cases this
def XH(to ti te:TE)(Vn:V->V->Hp->VK->Prop)(tip:TIp)(Vm:Qz):TS:=fun D σ H=>to σ H fun o H1=>ti σ H1 fun i H2=>Vn o i H2 fun x H3=>te σ H3 fun y H4=>tip x y H4 fun z H5=>Vm o i z H5 fun H6=>D.nx σ H6
def ady(X:Cx)(t:V->V->Hp->VK->Prop):Prop:=
 ∀(ae:LA)(s:AB)(σ:St)(H:Hp)(o i:V)(ov iv:AA)(Q:VK),Inv X ae σ H s->RelV o ov->RelV i iv->t o i H Q ->
  wpAny (model X.prog X.w) X.A (getItem ov iv) (EP X ae σ Q) X.xe s
theorem VV{o i e:Expr}{to ti te:TE}{Vn:V->V->Hp->VK->Prop}{tip:TIp}{Vm:Qz}{op:Operator}{tpos:Pos}(ho:PE X o to)(hi:PE X i ti)(hg:ady X Vn)(he:PE X e te)(hp:PIp X op tip)(hs:QG X Vm)
  (ha:∀ov iv new,augStore i ov iv new=(do holding [new,ov,iv] (setItem ov iv new); release [new,ov,iv] []; pure .next):=by intros; rfl):PS X (.AugAssign (.Subscript o i tpos) op e pos) (XH to ti te Vn tip Vm):=by
 symm;intro D I h;refine wpAny_AugAssign_SubscriptAny (cT (ho ae s σ H _ I h) fun ov s1 ⟨x1,H1,I1,r1,q1⟩=>?_) ha;refine cT (hi ae s1 σ H1 _ I1 q1) fun iv s2 qx=>?_;obtain⟨x2,H2,I2,r2,q2⟩:=qx;refine cT (hg ae s2 σ H2 x1 x2 ov iv _ I2 r1 r2 q2) fun old s3 qx=>?_;obtain⟨x3,H3,I3,r3,q3⟩:=qx;refine cT (he ae s3 σ H3 _ I3 q3) fun v s4 qx=>?_;obtain⟨x4,H4,I4,r4,q4⟩:=qx;refine cT (hp ae s4 σ H4 x3 x4 old v _ I4 r3 r4 q4) fun new s5 qx=>?_;obtain⟨x5,H5,I5,r5,q5⟩:=qx;exact cT (hs ae s5 σ H5 x1 x2 x5 ov iv new _ I5 r1 r2 r5 q5) fun _ s6 ⟨H6,I6,q6⟩=>⟨σ,H6,I6,q6⟩
def ipI(f:Int->Int->Int):TIp:=fun x y H Q=>∃i j,x=.int i/\y=.int j/\Q (.int (f i j)) H
theorem Ti:PIp X .Add (ipI fun i j=>i+j):=by
 intro ae s σ H x y v u Q I r1 r2 h;obtain⟨i,j,e1,e2,q⟩:=h;subst e1; subst e2;obtain⟨t,rfl⟩:=r1;obtain⟨t',rfl⟩:=r2;exact iadd_int ⟨.int _,H,I.tok _,⟨_,rfl⟩,q⟩
theorem Kh:PIp X .Sub (ipI fun i j=>i-j):=by
 intro ae s σ H x y v u Q I r1 r2 h;obtain⟨i,j,e1,e2,q⟩:=h;subst e1; subst e2;obtain⟨t,rfl⟩:=r1;obtain⟨t',rfl⟩:=r2;exact isub_int ⟨.int _,H,I.tok _,⟨_,rfl⟩,q⟩
end
section
variable{X:Cx}{pos:Pos}
end
structure It where
 go:Nat->Hp->Prop
 Gf:Nat->Hp->V->Hp->Prop
 stop:Nat->Hp->Prop
def gB(X:Cx)(ae:LA)(H:Hp)(b:Addr):Prop:=
 H b=none/\b≠X.env.locals/\b∉X.fs/\(b∈X.ex\/X.s₀.heap.objs.size<=b)/\(∀x c,X.env.cells.lookup x=some c->c≠b)/\∀p∈X.pn++ae,p.1≠b
theorem Inv.tY{X:Cx}{ae:LA}{σ:St}{H H':Hp}{s:AB}{b:Addr}(I:Inv X ae σ H s)(hb:s.heap.objs.size<=b)(hn:H' b=none):gB X ae H' b:=by
 refine⟨hn,Eb (pI I.lt hb),I.afq hb,.inr (lW I.sz hb),fun x c e z=>?_,fun p hp z=>?_⟩
 ·obtain⟨v,q⟩:=I.cell x c e;exact absurd (pI q.lt (by rw[z]; exact hb)) (uT _)
 ·exact absurd (pI (bV (I.pin p hp).1) (by rw[z]; exact hb)) (uT _)
structure Turn(P:AC)(w:World)(K:Frag)(tg:Expr)(J:It)(fp:List Addr)(it:Addr)(tn:Nat->Heap->Prop):Prop where
 mem:it∈fp
 obj:∀i h,tn i h->∀b∈fp,∃o,h.get? b=some o/\∀v,o.data≠.cell v
 keep:∀i h h',tn i h->(∀b∈fp,∀o,h.get? b=some o->h'.get? b=some o)->tn i h'
 item:∀(X:Cx),X.prog=P->X.w=w->X.K=K->X.calm=true->∀(i:Nat)(ae:LA)(s:AB)(σ:St)(H:Hp)(E:AA->AB->Prop),Inv X ae σ H s->(∀b∈fp,gB X ae H b)->tn i s.heap->J.go i H ->
  wpAny (model P w) X.A (pyNext (.ref it)) (fun r s1=>∃u,r=some u /\
   wpAny (model P w) X.A (letOwnedTupleGo tg (.ref it) u) (fun _ s2=>∃x H',Inv X ae σ H' s2/\RelV x u/\J.Gf i H x H'/\tn (i+1) s2.heap/\∀b∈fp,H' b=none) E s1) E s
 done:∀(X:Cx),X.prog=P->X.w=w->X.K=K->X.calm=true->∀(i:Nat)(ae:LA)(s:AB)(σ:St)(H:Hp)(E:AA->AB->Prop),Inv X ae σ H s->(∀b∈fp,gB X ae H b)->tn i s.heap->J.stop i H ->
  wpAny (model P w) X.A (pyNext (.ref it)) (fun r s1=>r=none/\Inv X ae σ H s1) E s
 self:∀(A:Around)(i:Nat)(s:AB)(Q:AA->AB->Prop)(E:AA->AB->Prop),tn i s.heap->Q (.ref it) s->wpAny (model P w) A (pyIter (.ref it)) Q E s
abbrev TI:=St->Hp->(It->Hp->Prop)->Prop
def PIE(X:Cx)(ae:LA)(σ:St)(tg:Expr)(R:It->Hp->Prop)(itv:AA)(s2:AB):Prop:=
 ∃(it:Addr)(fp:List Addr)(tn:Nat->Heap->Prop)(J:It)(H':Hp),itv=.ref it/\Inv X ae σ H' s2/\Turn X.prog X.w X.K tg J fp it tn/\tn 0 s2.heap/\(∀b∈fp,gB X ae H' b)/\R J H'
structure PI(X:Cx)(tg iter:Expr)(wi:TI):Prop where
 mk ::
 go :
 ∀(ae:LA)(s:AB)(σ:St)(H:Hp)(R:It->Hp->Prop),Inv X ae σ H s->wi σ H R ->
  wpAny (model X.prog X.w) X.A (eval iter X.env) (fun v s1=>wpAny (model X.prog X.w) X.A (pyIter v) (PIE X ae σ tg R) X.xe s1) X.xe s
instance {X:Cx} {tg iter:Expr} {wi:TI}:CoeFun (PI X tg iter wi) (fun _=>
 ∀(ae:LA)(s:AB)(σ:St)(H:Hp)(R:It->Hp->Prop),Inv X ae σ H s->wi σ H R ->
  wpAny (model X.prog X.w) X.A (eval iter X.env) (fun v s1=>wpAny (model X.prog X.w) X.A (pyIter v) (PIE X ae σ tg R) X.xe s1) X.xe s):=⟨PI.go⟩
theorem Dd{M:Model}{A:Around}{E:AA->AB->Prop}{s:AB}{tg:Expr}{it:Addr}{u:AA}{o:Obj}{n:String}{vs:Array AA}{Q:Unit->AB->Prop}(ho:s.heap.get? it=some o)(hc:o.cls=.type n)(hd:o.data=.fields vs)
  (hn:["enumerate","zip","dict_itemiterator","dict_reverseitemiterator","odict_iterator","itertools.zip_longest","itertools.pairwise"].contains n=false) (hQ:Q () s):wpAny M A (letOwnedTupleGo tg (.ref it) u) Q E s:=by
 unfold letOwnedTupleGo;cases tg <;> first
  | exact cH hQ
  | (cases u <;> first
    | exact cH hQ
    | (refine bh (wpAny_load ho ?_)
       rw[hc,hd];show wpAny M A (if(["enumerate","zip","dict_itemiterator","dict_reverseitemiterator","odict_iterator","itertools.zip_longest","itertools.pairwise"].contains n&&vs[0]?==some (rawInt _))=true then _ else _) Q E s
       rw[aQ (by intro h; rw[hn,Bool.false_and] at h; cases h)]
       exact cH hQ))
def YF(K:Frag)(a:Addr):It:=
 ⟨fun i H=>∃xs x,cG K H a xs/\xs[i]?=some x,fun i H x H'=>H'=H/\∀xs,cG K H a xs->xs[i]?=some x,fun i H=>∃xs,cG K H a xs/\xs.length<=i⟩
def YD(K:Frag)(a:Addr):It:=
 ⟨fun i H=>∃xs x,eX K H a xs/\xs[i]?=some x,fun i H x H'=>H'=H/\∀xs,eX K H a xs->xs[i]?=some x,fun i H=>∃xs,eX K H a xs/\xs.length<=i⟩
def QS(lo:Int)(n:Nat):It:=⟨fun i _=>i<n,fun i H x H'=>H'=H/\x=.int (lo+i),fun i _=>n<=i⟩
theorem Oj{P:AC}{w:World}{K:Frag}{tg:Expr}(a it:Addr):Turn P w K tg (YF K a) [it] it (fun i h=>h.IsListIter it a i) where
 mem:=by simp
 obj:=fun i h st b hb=>by
  have e:b=it:=by simpa using hb
  subst e;obtain⟨o,e,c,d⟩:=st;exact⟨o,e,fun v z=>by rw[d] at z; cases z⟩
 keep:=fun i h h' st k=>st.at fun o e=>k it (by simp) o e
 item:=by
  intro X hP hw hK hc i ae s σ H E I hf st hg;subst hP hw hK;obtain⟨xs,x,hq,hx⟩:=hg;obtain⟨its,rv,p,hz⟩:=I.list hq;obtain⟨u,hu,ru⟩:=rv.get hx;obtain⟨f0,f1,f2,f3,f4,f5⟩:=hf it (by simp)
  refine RW st p.isList (x:=u) (by simpa using hu) fun h' st' sb=>?_
  have I1:Inv X ae σ H { s with heap:=h' }:=I.turned (t':=s.toks) (fun b o hb e=>(sb.2 b hb).trans e) f0 f1 f3 f4 f5
  obtain⟨o,e,c,d⟩:=id st';exact⟨u,rfl,Dd (s:={ s with heap:=h' }) e c d ⋯ ⟨x,H,I1,ru,⟨rfl,fun ys hy=>by rw[I.y_ hy hq]; exact hx⟩,st',fun b hb=>(hf b hb).1⟩⟩
 done:=by
  intro X hP hw hK hc i ae s σ H E I hf st hg;subst hP hw hK;obtain⟨xs,hq,hx⟩:=hg;obtain⟨its,rv,p,hz⟩:=I.list hq;obtain⟨f0,f1,f2,f3,f4,f5⟩:=hf it (by simp)
  have hl:=rv.length;exact wpAny_pyNext_list_end (I.ok.hd hc) st p.isList (by simp; omega) fun h' eb=>⟨rfl,I.turned (t':=s.toks) (fun b o hb e=>eb b o hb e) f0 f1 f3 f4 f5⟩
 self:=fun _ _ _ _ _ st h=>wpAny_pyIter_listiter st h
theorem Jp{P:AC}{w:World}{K:Frag}{tg:Expr}(a it:Addr):Turn P w K tg (YD K a) [it] it (fun i h=>h.IsTupleIter it a i) where
 mem:=by simp
 obj:=fun i h st b hb=>by
  have e:b=it:=by simpa using hb
  subst e;obtain⟨o,e,c,d⟩:=st;exact⟨o,e,fun v z=>by rw[d] at z; cases z⟩
 keep:=fun i h h' st k=>st.at fun o e=>k it (by simp) o e
 item:=by
  intro X hP hw hK hc i ae s σ H E I hf st hg;subst hP hw hK;obtain⟨xs,x,hq,hx⟩:=hg;obtain⟨its,rv,p,hz⟩:=I.tuple hq;obtain⟨u,hu,ru⟩:=rv.get hx;obtain⟨f0,f1,f2,f3,f4,f5⟩:=hf it (by simp)
  refine wpAny_pyNext_tuple_item st (show s.heap.IsTuple a its.toArray from p) (x:=u) (by simpa using hu) fun h' st' sb=>?_
  have I1:Inv X ae σ H { s with heap:=h' }:=I.turned (t':=s.toks) (fun b o hb e=>(sb.2 b hb).trans e) f0 f1 f3 f4 f5
  obtain⟨o,e,c,d⟩:=id st';exact⟨u,rfl,Dd (s:={ s with heap:=h' }) e c d ⋯ ⟨x,H,I1,ru,⟨rfl,fun ys hy=>by rw[I.BK hy hq]; exact hx⟩,st',fun b hb=>(hf b hb).1⟩⟩
 done:=by
  intro X hP hw hK hc i ae s σ H E I hf st hg;subst hP hw hK;obtain⟨xs,hq,hx⟩:=hg;obtain⟨its,rv,p,hz⟩:=I.tuple hq;obtain⟨f0,f1,f2,f3,f4,f5⟩:=hf it (by simp)
  have hl:=rv.length;exact wpAny_pyNext_tuple_end (I.ok.hd hc) st (show s.heap.IsTuple a its.toArray from p) (by simp; omega) fun h' eb=>⟨rfl,I.turned (t':=s.toks) (fun b o hb e=>eb b o hb e) f0 f1 f3 f4 f5⟩
 self:=fun _ _ _ _ _ st h=>wpAny_pyIter_tupleiter st h
theorem Jq{P:AC}{w:World}{K:Frag}{tg:Expr}(it:Addr)(lo:Int)(n:Nat):Turn P w K tg (QS lo n) [it] it (fun i h=>IsRangeIter h it (lo+(i:Nat)*1) ((n:Int)-(i:Nat)) 1) where
 mem:=by simp
 obj:=fun i h st b hb=>by
  have e:b=it:=by simpa using hb
  subst e
  exact⟨_,st,fun v z=>by
   have z':Data.fields _=Data.cell v:=z
   cases z'⟩
 keep:=fun i h h' st k=>k it (by simp) _ st
 item:=by
  intro X hP hw hK hc i ae s σ H E I hf st hg;subst hP hw hK;obtain⟨f0,f1,f2,f3,f4,f5⟩:=hf it (by simp)
  have W:=Walks.range (prog:=X.prog) (w:=X.w) (I.ok.hd hc) it lo 1 n;refine W.item i s _ _ hg st fun v h' tk hv st' kk=>?_;obtain⟨t,rfl⟩:=hv;have I1:Inv X ae σ H { s with heap:=h',toks:=tk }:=I.turned (fun b o hb e=>kk b o (by simpa using hb) e) f0 f1 f3 f4 f5
  refine⟨_,rfl,Dd (s:={ s with heap:=h',toks:=tk }) (n:="range_iterator") st' rfl rfl ⋯ ⟨.int (lo+i),H,I1,⟨t,?_⟩,⟨rfl,rfl⟩,st',fun b hb=>(hf b hb).1⟩⟩
  rw[Int.mul_one]
 done:=by
  intro X hP hw hK hc i ae s σ H E I hf st hg;subst hP hw hK;obtain⟨f0,f1,f2,f3,f4,f5⟩:=hf it (by simp)
  exact wpAny_pyNext_range_end (I.ok.hd hc) st (by have:n<=i:=hg; omega) fun h' eb=>⟨rfl,I.turned (t':=s.toks) (fun b o hb e=>eb b o hb e) f0 f1 f3 f4 f5⟩
 self:=fun _ _ _ _ _ st h=>RV st h
section
variable{X:Cx}{tg:Expr}
def lE(K:Frag)(tl:TE):TI:=fun σ H R=>tl σ H fun x H1=>∃a,x=.ref a/\(∃xs,cG K H1 a xs)/\R (YF K a) H1
def Kl(K:Frag)(tl:TE):TI:=fun σ H R=>tl σ H fun x H1=>∃a,x=.ref a/\(∃xs,eX K H1 a xs)/\R (YD K a) H1
theorem Wa{l:Expr}{tl:TE}(hl:PE X l tl):PI X tg l (lE X.K tl):=by
 symm;intro R I h;refine cT (hl ae s σ H _ I h) fun v s1 qx=>?_;obtain⟨x,H1,I1,r1,q1⟩:=qx;obtain⟨a,e,⟨xs,hq⟩,q⟩:=q1;subst e;cases r1;obtain⟨its,rv,p,hz⟩:=I1.list hq;refine Ec p.isList ?_;refine⟨s1.heap.objs.size,[s1.heap.objs.size],_,_,H1,rfl,I1.kept (t':=s1.toks) fun b o e=>eF _ e,Oj a _,⟨_,dI _ rfl,rfl,rfl⟩,fun b hb=>?_,q⟩;have e:b=s1.heap.objs.size:=by simpa using hb
 subst e;exact I1.tY (bJ _) (I1.hok.fresh (bJ _))
theorem ZJ{l:Expr}{tl:TE}(hl:PE X l tl):PI X tg l (Kl X.K tl):=by
 symm;intro R I h;refine cT (hl ae s σ H _ I h) fun v s1 qx=>?_;obtain⟨x,H1,I1,r1,q1⟩:=qx;obtain⟨a,e,⟨xs,hq⟩,q⟩:=q1;subst e;cases r1;obtain⟨its,rv,p,hz⟩:=I1.tuple hq;refine Mr (show s1.heap.IsTuple a its.toArray from p) ?_;refine⟨s1.heap.objs.size,[s1.heap.objs.size],_,_,H1,rfl,I1.kept (t':=s1.toks) fun b o e=>eF _ e,Jp a _,⟨_,dI _ rfl,rfl,rfl⟩,fun b hb=>?_,q⟩;have e:b=s1.heap.objs.size:=by simpa using hb
 subst e;exact I1.tY (bJ _) (I1.hok.fresh (bJ _))
theorem RN{ae:LA}{σ:St}{H:Hp}{s:AB}{R:It->Hp->Prop}{E:AA->AB->Prop}{lo hi:Int}{t u v:Tok}{tk:Nat}(I:Inv X ae σ H s)(h1:-(2 ^ 62)<=lo)(h2:lo<2 ^ 62)(h3:-(2 ^ 62)<=hi)(h4:hi<2 ^ 62)
  (q:R (QS lo (hi-lo).toNat) H):wpAny (model X.prog X.w) X.A (pyIter (.ref s.heap.objs.size)) (PIE X ae σ tg R) E { s with heap:=s.heap.push { cls:=.type "range",data:=.fields #[.int lo t,.int hi u,.int 1 v] },toks:=tk }:=by
 refine wpAny_pyIter_range (IsRange.new ..) (small_one h1 h2 h3 h4) ?_;have I1:Inv X ae σ H { s with heap:=s.heap.push { cls:=.type "range",data:=.fields #[.int lo t,.int hi u,.int 1 v] },toks:=tk }:=I.kept fun b o e=>eF _ e
 refine⟨(s.heap.push { cls:=.type "range",data:=.fields #[.int lo t,.int hi u,.int 1 v] }).objs.size,[(s.heap.push { cls:=.type "range",data:=.fields #[.int lo t,.int hi u,.int 1 v] }).objs.size],_,_,H,rfl,
  I1.kept (t':=tk) fun b o e=>eF _ e,Jq _ lo (hi-lo).toNat,?_,fun b hb=>?_,q⟩
 ·have e1:lo+((0:Nat):Int)*1=lo:=by simp
  have e2:(((hi-lo).toNat:Nat):Int)-((0:Nat):Int)=Builtin.Range.rangeSize lo hi 1:=by rw[rangeSize_one]; split <;> omega
  show IsRangeIter _ _ (lo+((0:Nat):Int)*1) ((((hi-lo).toNat:Nat):Int)-((0:Nat):Int)) 1;rw[e1,e2];exact dI _ rfl
 ·have e:b=(s.heap.push { cls:=.type "range",data:=.fields #[.int lo t,.int hi u,.int 1 v] }).objs.size:=by simpa using hb
  subst e;exact I1.tY (bJ _) (I1.hok.fresh (bJ _))
def zj(ta:TA):TI:=fun σ H R=>ta σ H fun vs H1=>∃j:Int,vs=[.int j]/\-(2 ^ 62)<=j/\j<2 ^ 62/\R (QS 0 j.toNat) H1
theorem dJ{a:Expr}{ta:TA}{p pos:Pos}(hg:Gl X "range")(hm:X.mg "range" = none)(ha:PA X [a] ta)(hs: ~~~(starEach [a] X.env=[(false,eval a X.env)])):PI X tg (.Call (.Name "range" p) [a] [] pos) (zj ta):=by
 symm;intro R I h;refine Call_ (jy I hg hm boot_range (PyProof.Rows.callWith_type1 (cT (ha pos ae s σ H _ I h) fun us s1 ⟨vs,H1,I1,r1,q1⟩=>?_) hs rfl));obtain⟨j,e,q1,q2,q⟩:=q1;subst e;cases r1 with
 | cons r rr=>
  cases rr;obtain⟨t,rfl⟩:=r;exact call_range_1 (RN I1 ∅ ∅ q1 q2 (by simpa using q))
def Jt(wi:TI)(g:TG)(tb:TS):TS:=fun D σ H=>wi σ H fun J H1=>∃W:Nat->Nat->St->Hp->Prop,(∃m,W 0 m σ H1)/\∀i m σ H,W i m σ H ->
 (J.stop i H/\D.nx σ H)\/(J.go i H/\∃N:St->Hp->Prop,(∀σ' H',N σ' H'->∃m',m'<m/\W (i+1) m' σ' H')/\∀x H',J.Gf i H x H'->g x σ H' fun σ2 H2=>tb { D with nx:=N,ct:=N,bk:=D.nx } σ2 H2)
def Ei(fp:List Addr)(h:Heap):LA:=fp.filterMap fun b=>(h.get? b).map fun o=>(b,o)
theorem d9{fp:List Addr}{h:Heap}{b:Addr}{o:Obj}(hb:b∈fp)(e:h.get? b=some o):(b,o)∈Ei fp h:=List.mem_filterMap.mpr ⟨b,hb,by rw[e]; rfl⟩
theorem Pj{fp:List Addr}{h:Heap}{p:Addr×Obj}(hp:p∈Ei fp h):p.1∈fp/\h.get? p.1=some p.2:=by
 obtain⟨b,hb,e⟩:=List.mem_filterMap.mp hp;cases q:h.get? b with
 | none=>rw[q] at e; cases e
 | some o=>
  rw[q] at e;have e':(b,o)=p:=Option.some.inj e;subst e';exact⟨hb,q⟩
theorem Inv.pinned{ae:LA}{σ:St}{H:Hp}{s:AB}{fp:List Addr}(I:Inv X ae σ H s)(hf:∀b∈fp,gB X ae H b)(ho:∀b∈fp,∃o,s.heap.get? b=some o/\∀v,o.data≠.cell v):Inv X (ae++Ei fp s.heap) σ H s:=
 I.Mx fun p hp=>(iJ.mp hp).elim (fun z=>I.pin p (ju _ z)) fun z=>by
  obtain⟨hb,e⟩:=Pj z;obtain⟨f0,f1,f2,_⟩:=hf p.1 hb;obtain⟨o,e',d⟩:=ho p.1 hb;rw[e] at e'; cases e';exact⟨e,f0,f1,f2,d⟩
theorem Inv.jl{ae pl:LA}{σ:St}{H:Hp}{s:AB}(I:Inv X (ae++pl) σ H s):Inv X ae σ H s:=I.Mx fun p hp=>I.pin p (ju _ (RP _ hp))
theorem gK{iter:Expr}{body:List Stmt}{wi:TI}{g:TG}{tb:TS}{pos:Pos}(hp:PassesOwn (model X.prog X.w) X.A X.env X.xe)(hc:X.calm=true)(hi:PI X tg iter wi)(hg:PG X tg g)(hb:Dw X body tb)
  (hs:‹∀x,foldedSetIterable iter X.env x=pure x›):PS X (.For tg iter body [] pos) (Jt wi g tb):=by
 symm;intro D I h;refine wpAny_For (cT (hi ae s σ H _ I h) fun v s1 h1=>cT h1 fun itv s2 h2=>?_) hs;obtain⟨it,fp,tn,J,H2,e,I2,T,st2,f2,W,⟨m0,w0⟩,turn⟩:=h2;subst e;have stat:∀{H':Hp},(∀b∈fp,H' b=none)->∀b∈fp,gB X ae H' b:=fun hn b hb=>⟨hn b hb,(f2 b hb).2⟩;refine codeAny_forLoop_any (fun n s'=>∃i σ' H',Inv X ae σ' H' s'/\tn i s'.heap/\(∀b∈fp,H' b=none)/\W i n σ' H') ?_ m0 ⟨0,σ,H2,I2,st2,fun b hb=>(f2 b hb).1,w0⟩;rintro n s3 ⟨i,σ3,H3,I3,st3,W6,w3⟩;rcases turn i n σ3 H3 w3 with⟨stop,qn⟩ | ⟨go,N,hN,step⟩
 ·refine Hr hp (cT (T.done X rfl rfl rfl hc i ae s3 σ3 H3 X.xe I3 (stat W6) st3 stop) fun r s4 qx=>?_);obtain⟨hr,I4⟩:=qx;subst hr;exact Hq ⟨σ3,H3,I4,qn⟩
 ·refine Hr hp (cT (T.item X rfl rfl rfl hc i ae s3 σ3 H3 X.xe I3 (stat W6) st3 go) fun r s4 qx=>?_);obtain⟨u,hr,h4⟩:=qx;subst hr;refine Hr hp (cT h4 fun _ s5 qx=>?_);obtain⟨x,H5,I5,r5,y5,Vq,fr5⟩:=qx;have I5':=I5.pinned (stat fr5) (T.obj _ _ Vq);refine Hr hp (cT (hg _ s5 σ3 H5 x u _ I5' r5 (step x H5 y5)) fun _ s6 qx=>?_);obtain⟨σ6,H6,I6,q6⟩:=qx;refine Hr hp (cT (hb _ s6 σ6 H6 _ I6 q6) fun f s7 q7=>?_)
  have again:∀{σ7:St} {H7:Hp},Inv X (ae++Ei fp s5.heap) σ7 H7 s7->N σ7 H7->∃m,m<n/\∃i σ' H',Inv X ae σ' H' s7/\tn i s7.heap/\(∀b∈fp,H' b=none)/\W i m σ' H':=fun {σ7 H7} I7 n7=>by
   obtain⟨m',hm,w7⟩:=hN σ7 H7 n7;refine⟨m',hm,i+1,σ7,H7,I7.jl,T.keep _ _ _ Vq fun b hb o e=>(I7.pin (b,o) (ju _ (ju _ (d9 hb e)))).1,fun b hb=>?_,w7⟩;obtain⟨o,e,d⟩:=T.obj _ _ Vq b hb;exact(I7.pin (b,o) (ju _ (ju _ (d9 hb e)))).2.1
  cases f with
  | next=>obtain⟨σ7,H7,I7,n7⟩:=q7; exact again I7 n7
  | cont=>obtain⟨σ7,H7,I7,n7⟩:=q7; exact again I7 n7
  | brk=>obtain⟨σ7,H7,I7,q7⟩:=q7; exact⟨σ7,H7,I7.jl,q7⟩
  | ret v=>obtain⟨x7,σ7,H7,I7,r7,q7⟩:=q7; exact⟨x7,σ7,H7,I7.jl,r7,q7⟩
end
theorem T4{K:Frag}{a:Addr}{xs:List V}{g:TG}{tb:TS}{D:Ends}{σ:St}{H:Hp}(Pv:Nat->St->Hp->Prop)(h0:Pv 0 σ H)(hl:∀i σ H,i<=xs.length->Pv i σ H->cG K H a xs)
  (hs:∀i x σ H,xs[i]?=some x->Pv i σ H->g x σ H fun σ2 H2=>tb { D with nx:=Pv (i+1),ct:=Pv (i+1),bk:=D.nx } σ2 H2) (hd:∀σ H,Pv xs.length σ H->D.nx σ H) :
  ∃W:Nat->Nat->St->Hp->Prop,(∃m,W 0 m σ H)/\∀i m σ H,W i m σ H ->
   ((YF K a).stop i H/\D.nx σ H)\/((YF K a).go i H/\∃N:St->Hp->Prop,(∀σ' H',N σ' H'->∃m',m'<m/\W (i+1) m' σ' H')/\∀x H',(YF K a).Gf i H x H'->g x σ H' fun σ2 H2=>tb { D with nx:=N,ct:=N,bk:=D.nx } σ2 H2):=by
 refine⟨fun i m σ H=>m=xs.length-i/\i<=xs.length/\Pv i σ H,⟨xs.length,by simp,gU _,h0⟩,?_⟩
 rintro i m σ H ⟨rfl,hi,p⟩;have q:=hl i σ H hi p;by_cases hlt:i<xs.length
 ·refine .inr ⟨⟨xs,xs[i],q,by simp[hlt]⟩,Pv (i+1),fun σ' H' p'=>⟨xs.length-(i+1),∅,rfl,hlt,p'⟩,fun x H' y=>?_⟩
  obtain⟨e,y⟩:=y;subst e;exact hs i x σ _ (y xs q) p
 ·have e:i=xs.length:=by omega
  subst e;exact .inl ⟨⟨xs,q,bJ _⟩,hd σ H p⟩
theorem W7{K:Frag}{a:Addr}{xs:List V}{g:TG}{tb:TS}{D:Ends}{σ:St}{H:Hp}(Pv:Nat->St->Hp->Prop)(h0:Pv 0 σ H)(hl:∀i σ H,i<=xs.length->Pv i σ H->eX K H a xs)
  (hs:∀i x σ H,xs[i]?=some x->Pv i σ H->g x σ H fun σ2 H2=>tb { D with nx:=Pv (i+1),ct:=Pv (i+1),bk:=D.nx } σ2 H2) (hd:∀σ H,Pv xs.length σ H->D.nx σ H) :
  ∃W:Nat->Nat->St->Hp->Prop,(∃m,W 0 m σ H)/\∀i m σ H,W i m σ H ->
   ((YD K a).stop i H/\D.nx σ H)\/((YD K a).go i H/\∃N:St->Hp->Prop,(∀σ' H',N σ' H'->∃m',m'<m/\W (i+1) m' σ' H')/\∀x H',(YD K a).Gf i H x H'->g x σ H' fun σ2 H2=>tb { D with nx:=N,ct:=N,bk:=D.nx } σ2 H2):=by
 refine⟨fun i m σ H=>m=xs.length-i/\i<=xs.length/\Pv i σ H,⟨xs.length,by simp,gU _,h0⟩,?_⟩
 rintro i m σ H ⟨rfl,hi,p⟩;have q:=hl i σ H hi p;by_cases hlt:i<xs.length
 ·refine .inr ⟨⟨xs,xs[i],q,by simp[hlt]⟩,Pv (i+1),fun σ' H' p'=>⟨xs.length-(i+1),∅,rfl,hlt,p'⟩,fun x H' y=>?_⟩
  obtain⟨e,y⟩:=y;subst e;exact hs i x σ _ (y xs q) p
 ·have e:i=xs.length:=by omega
  subst e;exact .inl ⟨⟨xs,q,bJ _⟩,hd σ H p⟩
theorem Df{lo:Int}{n:Nat}{g:TG}{tb:TS}{D:Ends}{σ:St}{H:Hp}(Pv:Nat->St->Hp->Prop)(h0:Pv 0 σ H)
  (hs:∀i σ H,i<n->Pv i σ H->g (.int (lo+i)) σ H fun σ2 H2=>tb { D with nx:=Pv (i+1),ct:=Pv (i+1),bk:=D.nx } σ2 H2) (hd:∀σ H,Pv n σ H->D.nx σ H) :
  ∃W:Nat->Nat->St->Hp->Prop,(∃m,W 0 m σ H)/\∀i m σ H,W i m σ H ->
   ((QS lo n).stop i H/\D.nx σ H)\/((QS lo n).go i H/\∃N:St->Hp->Prop,(∀σ' H',N σ' H'->∃m',m'<m/\W (i+1) m' σ' H')/\∀x H',(QS lo n).Gf i H x H'->g x σ H' fun σ2 H2=>tb { D with nx:=N,ct:=N,bk:=D.nx } σ2 H2):=by
 refine⟨fun i m σ H=>m=n-i/\i<=n/\Pv i σ H,⟨n,by simp,gU _,h0⟩,?_⟩
 rintro i m σ H ⟨rfl,hi,p⟩;by_cases hlt:i<n
 ·refine .inr ⟨hlt,Pv (i+1),fun σ' H' p'=>⟨n-(i+1),∅,rfl,hlt,p'⟩,fun x H' y=>?_⟩
  obtain⟨e,y⟩:=y;subst e y;exact hs i σ _ hlt p
 ·have e:i=n:=by omega
  subst e;exact .inl ⟨bJ _,hd σ H p⟩
abbrev R2:=V->V->Hp->VK->Prop
structure ou(X:Cx)(f:AA->AA->Sem AA)(r:R2):Prop where
 mk ::
 go :
 ∀(ae:LA)(s:AB)(σ:St)(H:Hp)(x y:V)(v u:AA)(Q:VK),Inv X ae σ H s->RelV x v->RelV y u->r x y H Q ->
  wpAny (model X.prog X.w) X.A (f v u) (EP X ae σ Q) X.xe s
instance {X:Cx} {f:AA->AA->Sem AA} {r:R2}:CoeFun (ou X f r) (fun _=>
 ∀(ae:LA)(s:AB)(σ:St)(H:Hp)(x y:V)(v u:AA)(Q:VK),Inv X ae σ H s->RelV x v->RelV y u->r x y H Q ->
  wpAny (model X.prog X.w) X.A (f v u) (EP X ae σ Q) X.xe s):=⟨ou.go⟩
structure UnR(X:Cx)(f:AA->Sem AA)(r:V->Hp->VK->Prop):Prop where
 mk ::
 go :
 ∀(ae:LA)(s:AB)(σ:St)(H:Hp)(x:V)(v:AA)(Q:VK),Inv X ae σ H s->RelV x v->r x H Q ->
  wpAny (model X.prog X.w) X.A (f v) (EP X ae σ Q) X.xe s
instance {X:Cx} {f:AA->Sem AA} {r:V->Hp->VK->Prop}:CoeFun (UnR X f r) (fun _=>
 ∀(ae:LA)(s:AB)(σ:St)(H:Hp)(x:V)(v:AA)(Q:VK),Inv X ae σ H s->RelV x v->r x H Q ->
  wpAny (model X.prog X.w) X.A (f v) (EP X ae σ Q) X.xe s):=⟨UnR.go⟩
structure dG(X:Cx)(f:AA)(r:List V->Hp->VK->Prop):Prop where
 mk ::
 go :
 ∀(ae:LA)(s:AB)(σ:St)(H:Hp)(xs:List V)(us:List AA)(Q:VK),Inv X ae σ H s->Vals xs us->r xs H Q ->
  wpAny (model X.prog X.w) X.A (call f us) (EP X ae σ Q) X.xe s
instance {X:Cx} {f:AA} {r:List V->Hp->VK->Prop}:CoeFun (dG X f r) (fun _=>
 ∀(ae:LA)(s:AB)(σ:St)(H:Hp)(xs:List V)(us:List AA)(Q:VK),Inv X ae σ H s->Vals xs us->r xs H Q ->
  wpAny (model X.prog X.w) X.A (call f us) (EP X ae σ Q) X.xe s):=⟨dG.go⟩
def Xx(r:R2)(ta tb:TE):TE:=fun σ H Q=>ta σ H fun x H1=>tb σ H1 fun y H2=>r x y H2 Q
def tUn(r:V->Hp->VK->Prop)(ta:TE):TE:=fun σ H Q=>ta σ H fun x H1=>r x H1 Q
def rI(C:Int->Int->Prop)(g:Int->Int->V):R2:=fun x y H Q=>∃i j,x=.int i/\y=.int j/\C i j/\Q (g i j) H
def VL(g:Int->Int->V):R2:=fun x y H Q=>∃i j,x=.int i/\y=.int j/\Q (g i j) H
def rU(g:Int->V):V->Hp->VK->Prop:=fun x H Q=>∃i,x=.int i/\Q (g i) H
section
variable{X:Cx}{a b c:Expr}{ta tb tc:TE}{pos:Pos}
theorem aaK(ha:PE X a ta)(hb:PE X b tb){ae:LA}{s:AB}{σ:St}{H:Hp}{R:V->V->Hp->Prop}(I:Inv X ae σ H s)
  (h:ta σ H fun x H1=>tb σ H1 fun y H2=>R x y H2) {Q:AA->AB->Prop} {f:AA->AA->Sem AA}
  (hf:∀v u s2 x y H2,Inv X ae σ H2 s2->RelV x v->RelV y u->R x y H2->wpAny (model X.prog X.w) X.A (f v u) Q X.xe s2) :
  wpAny (model X.prog X.w) X.A (eval a X.env) (fun v s₁=>wpAny (model X.prog X.w) X.A (eval b X.env) (fun u s₂=>wpAny (model X.prog X.w) X.A (f v u) Q X.xe s₂) X.xe s₁) X.xe s:=by
 refine cT (ha ae s σ H _ I h) fun v s1 qx=>?_;obtain⟨x,H1,I1,r1,q1⟩:=qx;refine cT (hb ae s1 σ H1 _ I1 q1) fun u s2 qx=>?_;obtain⟨y,H2,I2,r2,q2⟩:=qx;exact hf v u s2 x y H2 I2 r1 r2 q2
theorem aO{op:Operator}{r:R2}(ho:ou X (binaryOp op) r)(ha:PE X a ta)(hb:PE X b tb):PE X (.BinOp a op b pos) (Xx r ta tb):=by
 symm;intro Q I h;exact wpAny_BinOp (aaK ha hb I h fun v u s2 x y H2 I2 rx ry q=>ho ae s2 σ H2 x y v u Q I2 rx ry q)
theorem R7{op:UnaryOp}{r:V->Hp->VK->Prop}(ho:UnR X (unaryOp op) r)(ha:PE X a ta):PE X (.UnaryOp op a pos) (tUn r ta):=by
 symm;intro Q I h;exact UnaryOp_ (cT (ha ae s σ H _ I h) fun v s1 ⟨x,H1,I1,r1,q1⟩=>ho ae s1 σ H1 x v Q I1 r1 q1)
theorem opI{f:AA->AA->Sem AA}{C:Int->Int->Prop}{g:Int->Int->Int}
  (rule:∀(i j:Int)(t u:Tok)(s:AB)(Q:AA->AB->Prop)(E:AA->AB->Prop),C i j->Q (.int (g i j) s.toks) { s with toks:=s.toks+1 }->wpAny (model X.prog X.w) X.A (f (.int i t) (.int j u)) Q E s) :
  ou X f (rI C fun i j=>.int (g i j)):=by
 symm;intro x y v u Q I rx ry h;obtain⟨i,j,rfl,rfl,hc,q⟩:=h;obtain⟨t,rfl⟩:=rx;obtain⟨t',rfl⟩:=ry;exact rule i j t t' s _ _ hc ⟨.int (g i j),H,I.tok _,⟨_,rfl⟩,q⟩
theorem acA{f:AA->AA->Sem AA}{g:Int->Int->Int}
  (rule:∀(i j:Int)(t u:Tok)(s:AB)(Q:AA->AB->Prop)(E:AA->AB->Prop),Q (.int (g i j) s.toks) { s with toks:=s.toks+1 }->wpAny (model X.prog X.w) X.A (f (.int i t) (.int j u)) Q E s) :
  ou X f (VL fun i j=>.int (g i j)):=by
 symm;intro x y v u Q I rx ry h;obtain⟨i,j,rfl,rfl,q⟩:=h;obtain⟨t,rfl⟩:=rx;obtain⟨t',rfl⟩:=ry;exact rule i j t t' s _ _ ⟨.int (g i j),H,I.tok _,⟨_,rfl⟩,q⟩
theorem Wm{f:AA->AA->Sem AA}{g:Int->Int->Bool}
  (rule:∀(i j:Int)(t u:Tok)(s:AB)(Q:AA->AB->Prop)(E:AA->AB->Prop),Q (.bool (g i j)) s->wpAny (model X.prog X.w) X.A (f (.int i t) (.int j u)) Q E s) :
  ou X f (VL fun i j=>.bl (g i j)):=by
 symm;intro x y v u Q I rx ry h;obtain⟨i,j,rfl,rfl,q⟩:=h;obtain⟨t,rfl⟩:=rx;obtain⟨t',rfl⟩:=ry;exact rule i j t t' s _ _ ⟨.bl (g i j),H,I,rfl,q⟩
def ag3(i j:Int):Prop:=0<j/\j<1073741824
def ag2(i j:Int):Prop:=0<=j/\j<=1000000/\i.natAbs<2 ^ 64
def UJ(i j:Int):Prop:=(-(2 ^ 64)<i/\i<2 ^ 64)\/(-(2 ^ 64)<j/\j<2 ^ 64)
theorem UJ.ok{i j:Int}(h:UJ i j):IntMulOk i j:=by
 rcases h with⟨h1,h2⟩ | ⟨h1,h2⟩
 ·exact .of_left (intBits_le_64 h1 h2)
 ·exact .of_right (intBits_le_64 h1 h2)
theorem bz:ou X (binaryOp .Add) (VL fun i j=>.int (i+j)):=acA fun _ _ _ _ _ _ _ q=>add_int q
theorem dY:ou X (binaryOp .Sub) (VL fun i j=>.int (i-j)):=acA fun _ _ _ _ _ _ _ q=>sub_int q
theorem il:ou X (binaryOp .Mult) (rI UJ fun i j=>.int (i*j)):=opI fun _ _ _ _ _ _ _ hc q=>mul_int q hc.ok
theorem Wk:ou X (binaryOp .FloorDiv) (rI ag3 fun i j=>.int (i / j)):=opI fun i j _ _ _ _ _ hc q=>by
 have h1:(0:Int)<j:=hc.1;have h2:j<1073741824:=hc.2;exact floordiv_int ∅ (by rw[Int.fdiv_eq_ediv_of_nonneg i ∅]; exact q) (.inl (PyProof.noPylong_small ∅))
theorem nj:ou X (binaryOp .Mod) (rI (fun _ j=>0<j) fun i j=>.int (i % j)):=opI fun i j _ _ _ _ _ hc q=>by
 have h1:(0:Int)<j:=hc;exact mod_int' ∅ (by rw[Int.fmod_eq_emod_of_nonneg i ∅]; exact q)
theorem rG:ou X (binaryOp .Pow) (rI ag2 fun i j=>.int (i ^ j.toNat)):=opI fun _ _ _ _ _ _ _ hc q=>pow_int_small hc.1 hc.2.1 hc.2.2 q
theorem unI{f:AA->Sem AA}{g:Int->Int}
  (rule:∀(i:Int)(t:Tok)(s:AB)(Q:AA->AB->Prop)(E:AA->AB->Prop),Q (.int (g i) s.toks) { s with toks:=s.toks+1 }->wpAny (model X.prog X.w) X.A (f (.int i t)) Q E s) :
  UnR X f (rU fun i=>.int (g i)):=by
 symm;intro x v Q I rx h;obtain⟨i,rfl,q⟩:=h;obtain⟨t,rfl⟩:=rx;exact rule i t s _ _ ⟨.int (g i),H,I.tok _,⟨_,rfl⟩,q⟩
theorem Jo:UnR X (unaryOp .USub) (rU fun i=>.int (-i)):=unI fun _ _ _ _ _ q=>neg_int q
end
def Ou:V->V->Bool
 | .non,.non=>true | .non,.int _=>true | .int _,.non=>true | .non,.bl _=>true | .bl _,.non=>true | .non,.str _=>true | .str _,.non=>true
 | .int _,.int _=>true | .bl _,.bl _=>true | .str _,.str _=>true | .Qv _,.Qv _=>true
 | .int _,.str _=>true | .str _,.int _=>true | .bl _,.str _=>true | .str _,.bl _=>true
 | _,_=>false
def rEq:R2:=fun x y H Q=>Ou x y=true/\Q (.bl (decide (x=y))) H
def rNe:R2:=fun x y H Q=>Ou x y=true/\Q (.bl (!decide (x=y))) H
theorem NK{i j:Int}:decide (V.int i=V.int j)=(i==j):=by
 rw[Hl];simp
theorem Ub{i j:Bool}:decide (V.bl i=V.bl j)=(i==j):=by
 rw[Hl];simp
theorem NB{i j:Str}:decide (V.str i=V.str j)=(i==j):=by
 rw[Hl];simp
theorem NP{i j:Array UInt8}:decide (V.Qv i=V.Qv j)=(i.toList==j.toList):=by
 rw[Hl];cases i;cases j;simp
section
variable{X:Cx}{a b c:Expr}{ta tb tc:TE}{pos:Pos}
theorem bT{ae:LA}{σ:St}{H:Hp}{s:AB}{Q:VK}{k k':Bool}(I:Inv X ae σ H s)(q:Q (.bl k) H)(e:k=k'):EP X ae σ Q (.bool k') s:=by
 subst e;exact⟨.bl k,H,I,rfl,q⟩
theorem fW:ou X (compareOp .Eq) rEq:=by
 symm;intro x y v u Q I rx ry h;obtain⟨hs,q⟩:=h;cases x with
 | non=>
  cases rx;cases y with
  | non=>cases ry; exact PySem.EqNone.eq_none_none (bT I q (by simp))
  | bl j=>cases ry; exact PySem.EqNone.eq_none_bool (bT I q (by simp))
  | int j=>obtain⟨t',rfl⟩:=ry; exact PySem.EqNone.eq_none_int (bT I q (by simp))
  | str j=>obtain⟨t',rfl⟩:=ry; exact PySem.EqNone.eq_none_str (bT I q (by simp))
  | _=>exact absurd (show false=true from hs) lg
 | bl i=>
  cases rx;cases y with
  | non=>cases ry; exact PySem.EqNone.eq_bool_none (bT I q (by simp))
  | bl j=>cases ry; exact eq_bool (bT I q Ub)
  | str j=>obtain⟨t',rfl⟩:=ry; exact PySem.EqMixed.eq_bool_str (bT I q (by simp))
  | _=>exact absurd (show false=true from hs) lg
 | int i=>
  obtain⟨t,rfl⟩:=rx;cases y with
  | non=>cases ry; exact PySem.EqNone.eq_int_none (bT I q (by simp))
  | int j=>obtain⟨t',rfl⟩:=ry; exact eq_int (bT I q NK)
  | str j=>obtain⟨t',rfl⟩:=ry; exact PySem.EqMixed.eq_int_str (bT I q (by simp))
  | _=>exact absurd (show false=true from hs) lg
 | str i=>
  obtain⟨t,rfl⟩:=rx;cases y with
  | non=>cases ry; exact PySem.EqNone.eq_str_none (bT I q (by simp))
  | bl j=>cases ry; exact PySem.EqMixed.eq_str_bool (bT I q (by simp))
  | int j=>obtain⟨t',rfl⟩:=ry; exact PySem.EqMixed.eq_str_int (bT I q (by simp))
  | str j=>obtain⟨t',rfl⟩:=ry; exact eq_str (bT I q NB)
  | _=>exact absurd (show false=true from hs) lg
 | Qv i=>
  obtain⟨t,rfl⟩:=rx;cases y with
  | Qv j=>obtain⟨t',rfl⟩:=ry; exact PySem.W.eq_bytes (bT I q NP)
  | _=>exact absurd (show false=true from hs) lg
 | _=>cases y <;> exact absurd (show false=true from hs) lg
theorem Cy:ou X (compareOp .NotEq) rNe:=by
 symm;intro x y v u Q I rx ry h;obtain⟨hs,q⟩:=h;cases x with
 | non=>
  cases rx;cases y with
  | non=>cases ry; exact PySem.EqNone.ne_none_none (bT I q (by simp))
  | bl j=>cases ry; exact PySem.EqNone.ne_none_bool (bT I q (by simp))
  | int j=>obtain⟨t',rfl⟩:=ry; exact PySem.EqNone.ne_none_int (bT I q (by simp))
  | str j=>obtain⟨t',rfl⟩:=ry; exact PySem.EqNone.ne_none_str (bT I q (by simp))
  | _=>exact absurd (show false=true from hs) lg
 | bl i=>
  cases rx;cases y with
  | non=>cases ry; exact PySem.EqNone.ne_bool_none (bT I q (by simp))
  | bl j=>cases ry; exact ne_bool (bT I q (m8 not Ub))
  | str j=>obtain⟨t',rfl⟩:=ry; exact PySem.EqMixed.ne_bool_str (bT I q (by simp))
  | _=>exact absurd (show false=true from hs) lg
 | int i=>
  obtain⟨t,rfl⟩:=rx;cases y with
  | non=>cases ry; exact PySem.EqNone.ne_int_none (bT I q (by simp))
  | int j=>obtain⟨t',rfl⟩:=ry; exact ne_int (bT I q (m8 not NK))
  | str j=>obtain⟨t',rfl⟩:=ry; exact PySem.EqMixed.ne_int_str (bT I q (by simp))
  | _=>exact absurd (show false=true from hs) lg
 | str i=>
  obtain⟨t,rfl⟩:=rx;cases y with
  | non=>cases ry; exact PySem.EqNone.ne_str_none (bT I q (by simp))
  | bl j=>cases ry; exact PySem.EqMixed.ne_str_bool (bT I q (by simp))
  | int j=>obtain⟨t',rfl⟩:=ry; exact PySem.EqMixed.ne_str_int (bT I q (by simp))
  | str j=>obtain⟨t',rfl⟩:=ry; exact ne_str (bT I q (m8 not NB))
  | _=>exact absurd (show false=true from hs) lg
 | Qv i=>
  obtain⟨t,rfl⟩:=rx;cases y with
  | Qv j=>obtain⟨t',rfl⟩:=ry; exact PySem.W.ne_bytes (bT I q (m8 not NP))
  | _=>exact absurd (show false=true from hs) lg
 | _=>cases y <;> exact absurd (show false=true from hs) lg
theorem qI:ou X (compareOp .Lt) (VL fun i j=>.bl (decide (i<j))):=Wm fun _ _ _ _ _ _ _ q=>lt_int q
theorem Hy:ou X (compareOp .LtE) (VL fun i j=>.bl (decide (i<=j))):=Wm fun _ _ _ _ _ _ _ q=>le_int q
theorem pK:ou X (compareOp .Gt) (VL fun i j=>.bl (decide (j<i))):=Wm fun _ _ _ _ _ _ _ q=>gt_int q
theorem Ss:ou X (compareOp .GtE) (VL fun i j=>.bl (decide (j<=i))):=Wm fun _ _ _ _ _ _ _ q=>ge_int q
theorem O7:ou X (compareOp .In) (fun x y H Q=>∃i j,x=.str i/\y=.str j/\Q (.bl (!(Builtin.Str.occurrences j i 0 j.length 1).isEmpty)) H):=by
 symm;intro x y v u Q I rx ry h;obtain⟨i,j,rfl,rfl,q⟩:=h;obtain⟨t,rfl⟩:=rx;obtain⟨t',rfl⟩:=ry;exact in_str (bT I q rfl)
theorem yH:ou X (compareOp .Is) (fun x y H Q=>y=.non/\Q (.bl (decide (x=.non))) H):=by
 symm;intro x y v u Q I rx ry h;obtain⟨rfl,q⟩:=h;cases ry;refine is_none_gen (bT I q ?_);cases x <;> first
  | (cases rx; rfl)
  | (obtain⟨t,rfl⟩:=rx; rfl)
theorem qj:ou X (compareOp .IsNot) (fun x y H Q=>y=.non/\Q (.bl (!decide (x=.non))) H):=by
 symm;intro x y v u Q I rx ry h;obtain⟨rfl,q⟩:=h;cases ry;refine isnot_none_gen (bT I q ?_);cases x <;> first
  | (cases rx; rfl)
  | (obtain⟨t,rfl⟩:=rx; rfl)
theorem bj(b:Expr){op:CmpOp}(h:(op≠.In)⁻¹)(h2:(op≠.NotIn)⁻¹):behindInMarks op b=false:=by
 have e1:(op==CmpOp.In)=false:=by cases op <;> first | rfl | exact absurd rfl h
 have e2:(op==CmpOp.NotIn)=false:=by cases op <;> first | rfl | exact absurd rfl h2
 cases b <;> simp[behindInMarks,e1,e2]
theorem eG{op:CmpOp}{r:R2}(ho:ou X (compareOp op) r)(ha:PE X a ta)(hb:PE X b tb)(hm:behindInMarks op b=false):PE X (.Compare a [op] [b] pos) (Xx r ta tb):=by
 symm;intro Q I h;exact wpAny_Compare1 (aaK ha hb I h fun v u s2 x y H2 I2 rx ry q=>ho ae s2 σ H2 x y v u Q I2 rx ry q) hm
def Ls(t:TE):TT:=fun σ H Q=>t σ H fun x H'=>∃k,x=.bl k/\Q k H'
theorem bc{op:CmpOp}{r:R2}(ho:ou X (compareOp op) r)(ha:PE X a ta)(hb:PE X b tb)(hm:behindInMarks op b=false):PT X (.Compare a [op] [b] pos) (Ls (Xx r ta tb)):=by
 symm;intro Q I h
 refine wpAny_isTrue_Compare1 (cT (ha ae s σ H _ I h) fun v s1 ⟨x,H1,I1,r1,q1⟩=>cT (hb ae s1 σ H1 _ I1 q1) fun u s2 ⟨y,H2,I2,r2,q2⟩=>
  cT (ho ae s2 σ H2 x y v u _ I2 r1 r2 q2) fun c s3 ⟨z,H3,I3,r3,k,e,q3⟩=>?_) hm
 subst e;cases r3;exact G_ ⟨H3,I3,q3⟩
def Rj(r r':R2)(ta tb tc:TE):TE:=fun σ H Q=>ta σ H fun x H1=>tb σ H1 fun y H2=>r x y H2 fun z H3=>∃k,z=.bl k /\
 (if k=true then tc σ H3 fun w' H4=>r' y w' H4 Q else Q (.bl false) H3)
theorem Hu{op op':CmpOp}{r r':R2}(ho:ou X (compareOp op) r)(ho':ou X (compareOp op') r')(ha:PE X a ta)(hb:PE X b tb)(hc:PE X c tc)
  (hm:lastMarks [op,op'] [b,c]=false:=by with_unfolding_all rfl):PT X (.Compare a [op,op'] [b,c] pos) (Ls (Rj r r' ta tb tc)):=by
 symm;intro Q I h
 refine isTrue_chain (cT (ha ae s σ H _ I h) fun v s1 ⟨x,H1,I1,r1,q1⟩=>test_link (cT (hb ae s1 σ H1 _ I1 q1) fun u s2 ⟨y,H2,I2,r2,q2⟩=>
  cT (ho ae s2 σ H2 x y v u _ I2 r1 r2 q2) fun d s3 ⟨z,H3,I3,r3,k,e,q3⟩=>?_)) hm
 subst e;cases r3;refine G_ ?_;cases k with
 | false=>
  obtain⟨k',e',q'⟩:=q3;cases e';exact ite_ff ⟨H3,I3,q'⟩
 | true=>
  refine ite_tt (test_last (cT (hc ae s3 σ H3 _ I3 q3) fun w' s4 ⟨z',H4,I4,r4,q4⟩=>cT (ho' ae s4 σ H4 y z' u w' _ I4 r2 r4 q4) fun d' s5 qx=>?_));obtain⟨z2,H5,I5,r5,k2,e2,q5⟩:=qx;subst e2;cases r5;exact G_ ⟨H5,I5,q5⟩
def agU(K:Frag)(x:V)(H:Hp)(k:Bool):Prop:=
 match x with
 | .non=>k=false
 | .bl b=>k=b
 | .int i=>k=(i != 0)
 | .str y=>y.length<=sizeLine/\k=((y.length:Int) != 0)
 | .Qv y=>y.size<=sizeLine/\k=((y.size:Int) != 0)
 | .ref p=>(∃xs,cG K H p xs/\k = !xs.isEmpty)\/(∃xs,eX K H p xs/\k = !xs.isEmpty)\/∃kvs,H p=some (.dK kvs)/\k = !kvs.isEmpty
 | _=>False
theorem rM:(sizeLine:Nat)<2 ^ 63:=by rw[sizeLine_eq]; decide
theorem rH:ou X (binaryOp .Add) (fun x y H Q=>∃i j,x=.str i/\y=.str j/\i.length+j.length<=sizeLine/\Q (.str (i++j)) H):=by
 symm;intro x y v u Q I rx ry h;obtain⟨i,j,rfl,rfl,hz,q⟩:=h;obtain⟨t,rfl⟩:=rx;obtain⟨t',rfl⟩:=ry;exact add_str (fun t' tk=>⟨.str (i++j),H,I.tok _,⟨_,rfl⟩,q⟩) hz
theorem vals1{x:V}{us:List AA}(r:Vals [x] us):∃u,us=[u]/\RelV x u:=by
 cases r with
 | cons r1 r2=>cases r2; exact⟨_,rfl,r1⟩
theorem vals2{x y:V}{us:List AA}(r:Vals [x,y] us):∃u w',us=[u,w']/\RelV x u/\RelV y w':=by
 cases r with
 | cons r1 r2=>
  cases r2 with
  | cons r3 r4=>cases r4; exact⟨_,_,rfl,r1,r3⟩
theorem Ip:dG X (.builtin "abs") (fun xs H Q=>∃i,xs=[.int i]/\Q (.int (if i<0 then -i else i)) H):=by
 symm;intro xs us Q I r h;obtain⟨i,rfl,q⟩:=h;obtain⟨u,rfl,t,rfl⟩:=vals1 r;exact call_abs_int fun u tk=>⟨.int (if i<0 then -i else i),H,I.tok _,⟨_,rfl⟩,q⟩
theorem gw(hc:X.calm=true):dG X (.builtin "max") (fun xs H Q=>∃i j,xs=[.int i,.int j]/\Q (.int (if j>i then j else i)) H):=by
 symm;intro xs us Q I r h;obtain⟨i,j,rfl,q⟩:=h;obtain⟨u,w',rfl,⟨t,rfl⟩,⟨t',rfl⟩⟩:=vals2 r;refine max_two_ints (I.ok.hd hc) fun h' tk k=>⟨_,H,I.kept k,?_,q⟩;by_cases hj:j>i
 ·rw[aX hj,aX hj]; exact⟨_,rfl⟩
 ·rw[aQ hj,aQ hj]; exact⟨_,rfl⟩
theorem cW(hc:X.calm=true):dG X (.builtin "min") (fun xs H Q=>∃i j,xs=[.int i,.int j]/\Q (.int (if j<i then j else i)) H):=by
 symm;intro xs us Q I r h;obtain⟨i,j,rfl,q⟩:=h;obtain⟨u,w',rfl,⟨t,rfl⟩,⟨t',rfl⟩⟩:=vals2 r;refine min_two_ints (I.ok.hd hc) fun h' tk k=>⟨_,H,I.kept k,?_,q⟩;by_cases hj:j<i
 ·rw[aX hj,aX hj]; exact⟨_,rfl⟩
 ·rw[aQ hj,aQ hj]; exact⟨_,rfl⟩
end
structure Le(h:Heap)(x dx C:Addr)(mA:Str->Option AA):Prop where
 obj:h.get? x=some (instObj C dx)
 ns:h.Ns1 dx mA
 ne:dx≠x
theorem Px{h:Heap}{dx:Addr}{mA:Str->Option AA}(n:h.Ns1 dx mA):∃od,h.get? dx=some od/\∀name,lookIn name od=some (mA name):=by
 obtain⟨o,es,ep,ho,hd,hk,_,hm⟩:=n;refine⟨o,ho,fun name=>?_⟩;have e:=hm name;unfold nsFind findBy at e;rw[<- Array.find?_toList] at e;unfold lookIn;rw[hd];dsimp only;split
 ·rename_i y q;rw[q] at e;exact m8 some e
 ·rename_i q;rw[q] at e
  have a:es.toList.any (·.refKey)=false:=by
   rw[List.any_eq_false];intro y hy;obtain⟨z,t,hkey⟩:=hk y (Array.mem_toList_iff.mp hy);simp[DictEntry.refKey,hkey]
  have a':¬es.toList.any (·.refKey)=true:=by rw[a]; exact lg
  rw[aQ a'];exact m8 some e
theorem Le.look{h:Heap}{x dx C:Addr}{mA:Str->Option AA}(I:Le h x dx C mA):∃od,PySem.W.InstAt h x (instObj C dx) C (some od)/\∀name,lookIn name od=some (mA name):=
 let ⟨od,ho,hl⟩:=Px I.ns
 ⟨od,⟨I.obj,rfl,rfl,ho⟩,hl⟩
section
variable{prog:AC}{w:World}{A:Around}{E:AA->AB->Prop}{s:AB}{K:Frag}{x dx C f:Addr}{mA:Str->Option AA}{name:Str}{v:AA}
theorem get_map{expr:Bool}{Q:AA->AB->Prop}(X:K.In s.heap)(I:Le s.heap x dx C mA)(hg:plainGet K C name=true)(hh:hasDictIn K C=true)
  (ha:findIn K (.ref C) name=some none) (hv:mA name=some v) (hv':handedIn v=true) (h:Q v { s with toks:=s.toks+1 }) :
  wpAny (model prog w) A (getAttr (.ref x) name expr) Q E s:=by
 obtain⟨od,J,hl⟩:=I.look;exact PySem.W.get_value X J (plainGet_of hg).1 (PySem.W.findObj_own hh ha rfl (by rw[hl,hv])) hv' h
theorem TV{pl:Sem Bool}{Q:AA×List AA->AB->Prop}(X:K.In s.heap)(I:Le s.heap x dx C mA)(hg:plainGet K C name=true)
  (hf:findIn K (.ref C) name=some (some (.ref f))) (ht:isFn K (.ref f)=true) (hv:mA name=none) (h:Q (.ref f,[.ref x]) s) :
  wpAny (model prog w) A (getMethod (.ref x) name pl) Q E s:=by
 obtain⟨od,J,hl⟩:=I.look;exact PySem.W.method_fn X J (plainGet_of hg).1 (plainGet_of hg).2 hf (beq_iff_eq.mp ht) (by show(lookIn name od).map (·.isSome)=some false; rw[hl,hv]; rfl) h
theorem Vr{ns:List Str}{Q:Unit->AB->Prop}(X:K.In s.heap)(I:Le s.heap x dx C mA)
  (hs:findIn K (.ref C) "__setattr__" = some (some (.builtin "object.__setattr__"))) (hp:plainOver K C=true) (ht:takerIn K C name=some none) (hh:hasDictIn K C=true)
  (hw:PySem.Within mA ns) (hsz:ns.length<=sizeLine)
  (h:∀h',Le h' x dx C (fun y=>if y=name then some v else mA y)->Heap.SameBut dx s.heap h'->Q () { s with heap:=h',toks:=s.toks+2 }) :
  wpAny (model prog w) A (setAttr (.ref x) name v) Q E s:=by
 obtain⟨od,J,hl⟩:=I.look;refine PySem.W.set_plain X J hs (PySem.W.osa_open (s:={ s with toks:=s.toks+1 }) (r:=none) X J hp ht fun b=>?_)
 obtain⟨cd,hc,hd'⟩:=PySem.W.any_some hh;have hx:s.heap.get? x=some ⟨.ref C,some dx,.plain,#[]⟩:=I.obj;refine bh (cH (bh (bh (wpAny_loadPart hx (bh (PySem.W.Looks.here (s:={ s with toks:=s.toks+1 }) (PySem.W.looks_clsIn X hc) ?_))))))
 rw[hd'];refine cH (a:=some dx) (bh (cH (bh ?_)));refine wpAny_nsSet1 (s:={ s with toks:=s.toks+1 }) I.ns fun h' hn2 hs2=>?_
 obtain⟨oD,esD,epD,hoD,hdD,hcD⟩:=hn2.count (PySem.Within.cons name v hw);refine bh (wpAny_lookBehind hoD (by rw[hdD]; exact pastItsLine_dict (lW hcD (by rw[fH]; omega))) ?_)
 exact cH (h _ ⟨(hs2.2 _ (Ne.symm I.ne)).trans I.obj,hn2,I.ne⟩ hs2)
theorem S5{R:Result->AB->Prop}{vs:List AA}{kw:List (Str×AA)}(X:K.In s.heap)(hm:makesIn K C=true)
  (hi:findIn K (.ref C) "__init__" = some (some (.ref f))) (hf:PySem.W.typeIn K (.ref f)=some (.type "function"))
  (h:codeAny (model prog w) (A.under (.builtin "type.__call__" ⟨.ref C::vs,kw⟩)) (.call (.ref f) ⟨.ref (s.heap.objs.size+1)::vs,kw⟩) (PySem.W.InitBack (s.heap.objs.size+1) R)
   { s with heap:=(s.heap.push emptyDict).push (instObj C s.heap.objs.size) }) :
  codeAny (model prog w) A (.call (.ref C) ⟨vs,kw⟩) R s:=by
 obtain⟨hh,g,d,t,os⟩:=s;exact PySem.W.make_core (PySem.W.makes_of X hm) (PySem.W.looks_findIn X hi) (fun self=>PySem.W.bind_fn X self hf) (.inl rfl) h
end
def j0(f:Str)(v:V):List (Str×V)->List (Str×V)
 | []=>[(f,v)]
 | (g,x)::r=>if g=f then(g,v)::r else(g,x)::j0 f v r
theorem vX(f g:Str)(v:V):∀fs:List (Str×V),(j0 f v fs).lookup g=if g=f then some v else fs.lookup g
 | []=>by
  show List.lookup g [(f,v)]=_;by_cases h:g=f
  ·have hb:(g==f)=true:=beq_iff_eq.mpr h;simp only[List.lookup,hb,aX h]
  ·have hb:(g==f)=false:=beq_eq_false_iff_ne.mpr h;simp only[List.lookup,hb,aQ h]
 | (k,x)::r=>by
  have ih:=vX f g v r;rw[show j0 f v ((k,x)::r)=(if k=f then(k,v)::r else(k,x)::j0 f v r) from rfl]
  by_cases hk:k=f
  ·rw[aX hk];by_cases h:g=k
   ·have hb:(g==k)=true:=beq_iff_eq.mpr h;simp only[List.lookup,hb,aX (h.trans hk)]
   ·have hb:(g==k)=false:=beq_eq_false_iff_ne.mpr h;simp only[List.lookup,hb,aQ (fun e:g=f=>h (e.trans hk.symm))]
  ·rw[aQ hk];by_cases h:g=k
   ·have hb:(g==k)=true:=beq_iff_eq.mpr h;simp only[List.lookup,hb,aQ (fun e:g=f=>hk (h.symm.trans e))]
   ·have hb:(g==k)=false:=beq_eq_false_iff_ne.mpr h;simp only[List.lookup,hb];exact ih
theorem vd(f:Str)(v:V):∀fs:List (Str×V),f∈(j0 f v fs).map (·.1)/\∀g,g∈fs.map (·.1)->g∈(j0 f v fs).map (·.1)
 | []=>⟨by simp[j0],fun g h=>by simp at h⟩
 | (k,x)::r=>by
  obtain⟨i1,i2⟩:=vd f v r;rw[show j0 f v ((k,x)::r)=(if k=f then(k,v)::r else(k,x)::j0 f v r) from rfl]
  by_cases hk:k=f
  ·rw[aX hk];subst hk;exact⟨by simp,fun g h=>by simpa using h⟩
  ·rw[aQ hk];refine⟨?_,fun g h=>?_⟩
   ·rw[iI];exact jb _ i1
   ·rw[iI] at h ⊢;rcases bN.mp h with e | e
    ·exact bN.mpr (.inl e)
    ·exact jb _ (i2 g e)
theorem vY(f:Str)(v:V):∀fs:List (Str×V),(j0 f v fs).length<=fs.length+1
 | []=>by simp[j0]
 | (k,x)::r=>by
  have ih:=vY f v r;rw[show j0 f v ((k,x)::r)=(if k=f then(k,v)::r else(k,x)::j0 f v r) from rfl]
  by_cases hk:k=f
  ·rw[aX hk,fH,fH]; omega
  ·rw[aQ hk,fH,fH]; omega
theorem oh.some_of{v:V}{o:Option AA}(r:oh (some v) o):∃u,o=some u/\RelV v u:=by
 cases o with
 | none=>exact(show False from r).elim
 | some u=>exact⟨u,rfl,r⟩
theorem oh.none_of{o:Option AA}(r:oh none o):o=none:=by
 cases o with
 | none=>rfl
 | some u=>exact(show False from r).elim
theorem P_{v:V}{u:AA}(r:RelV v u):handedIn u=true:=by
 cases v with
 | non=>cases(show u=Value.none from r); rfl
 | bl b=>cases(show u=Value.bool b from r); rfl
 | int i=>obtain⟨t,e⟩:=(show ∃t,u=Value.int i t from r); cases e; rfl
 | str x=>obtain⟨t,e⟩:=(show ∃t,u=Value.str x t from r); cases e; rfl
 | Qv b=>obtain⟨t,e⟩:=(show ∃t,u=Value.bytes b t from r); cases e; rfl
 | flt b=>obtain⟨t,e⟩:=(show ∃t,u=Value.float b t from r); cases e; rfl
 | ref a=>cases(show u=Value.ref a from r); rfl
 | ty n=>cases(show u=Value.type n from r); rfl
section
variable{P:AC}{w:World}{H H':Hp}{h h':Heap}{a C dx:Addr}{fs fs':List (Str×V)}
theorem tQ(hok:lJ P w H h)(e:H a=some (.ins C dx fs)):∃mA,Le h a dx C mA/\(∀f,oh (fs.lookup f) (mA f))/\PySem.Within mA (fs.map (·.1))/\fs.length<=1000/\H dx=some (.own a):=by
 obtain⟨d,z,ne,ob,mA,n,r,q⟩:=(show bZ P w H h a (.ins C dx fs) from hok a _ e);exact⟨mA,⟨ob,n,ne⟩,r,q,z,d⟩
end
structure Gh(K:Frag)(C:Addr):Prop where
 pg:plainGet K C Str.empty=true
 hd:hasDictIn K C=true
 po:plainOver K C=true
 sa:findIn K (.ref C) "__setattr__" = some (some (.builtin "object.__setattr__"))
theorem Gh.get{K:Frag}{C:Addr}(c:Gh K C)(f:Str):plainGet K C f=true:=c.pg
def dF(K:Frag)(C:Addr)(f:Str):Prop:=findIn K (.ref C) f=some none
theorem dF.taker{K:Frag}{C:Addr}{f:Str}(n:dF K C f):takerIn K C f=some none:=by
 unfold takerIn;rw[show findIn K (.ref C) f=some none from n];rfl
structure Con(K:Frag)(C:Addr)(f:Str)(v:V)(u:AA):Prop where
 at_:findIn K (.ref C) f=some (some u)
 rel:RelV v u
 get:specialIn K u "__get__" = some none
 cp:PySem.W.copiedNames.contains f=false
structure Meth(K:Frag)(C:Addr)(m:Str)(f:Addr):Prop where
 at_:findIn K (.ref C) m=some (some (.ref f))
 fn:isFn K (.ref f)=true
 kp:keepIn K (.ref f)=true
section
variable{X:Cx}{ae:LA}{σ:St}{H:Hp}{s:AB}{a C dx:Addr}{fs:List (Str×V)}{f:Str}{v:V}{A:Around}{E:AA->AB->Prop}
theorem Ko{b:Bool}{Q:AA->AB->Prop}(I:Inv X ae σ H s)(e:H a=some (.ins C dx fs))(c:Gh X.K C)(n:dF X.K C f)(l:fs.lookup f=some v)
  (h:∀u s',Inv X ae σ H s'->RelV v u->Q u s'):wpAny (model X.prog X.w) A (getAttr (.ref a) f b) Q E s:=by
 obtain⟨mA,O,r,_,_,_⟩:=tQ I.hok e;obtain⟨u,hu,ru⟩:=oh.some_of (v:=v) (o:=mA f) (by rw[<- l]; exact r f)
 exact get_map I.mL O (c.get f) c.hd n hu (P_ ru) (h u _ (I.tok _) ru)
theorem rN{m:Str}{g:Addr}{pl:Sem Bool}{Q:AA×List AA->AB->Prop}(I:Inv X ae σ H s)(e:H a=some (.ins C dx fs))(c:Gh X.K C)(k:Meth X.K C m g)(l:fs.lookup m=none)
  (h:Q (.ref g,[.ref a]) s):wpAny (model X.prog X.w) A (getMethod (.ref a) m pl) Q E s:=by
 obtain⟨mA,O,r,_,_,_⟩:=tQ I.hok e;have hn:mA m=none:=oh.none_of (by rw[<- l]; exact r m)
 exact TV I.mL O (c.get m) k.at_ k.fn hn h
theorem JC{y:V}{u:AA}{Q:Unit->AB->Prop}(I:Inv X ae σ H s)(e:H a=some (.ins C dx fs))(c:Gh X.K C)(n:dF X.K C f)(hl:fs.length<1000)(ry:RelV y u)
  (h:∀s',Inv X ae σ (upd H a (.ins C dx (j0 f y fs))) s'->Q () s'):wpAny (model X.prog X.w) A (setAttr (.ref a) f u) Q E s:=by
 obtain⟨mA,O,r,wi,_,ho⟩:=tQ I.hok e;have hz:(fs.map (·.1)).length<=sizeLine:=by rw[bW,sizeLine_eq]; omega
 refine Vr I.mL O c.sa c.po n.taker c.hd wi hz fun h' O' sb=>h _ ?_;have hd:∃o,h'.get? dx=some o:=let ⟨o,_,_,e',_⟩:=O'.ns; ⟨o,e'⟩;refine I.write (x:=a) (e:=dx) (by rw[e]; exact True.intro) (.inr ho) (fun b q hb z=>(sb.2 b hb).trans z) hd ?_
 refine⟨by rw[aJ O.ne]; exact ho,?_,O.ne,O'.obj,_,O'.ns,fun g=>?_,fun g hg=>?_⟩
 ·have:=vY f y fs; omega
 ·show oh ((j0 f y fs).lookup g) (if g=f then some u else mA g)
  rw[vX];by_cases q:g=f
  ·rw[aX q,aX q]; exact ry
  ·rw[aQ q,aQ q]; exact r g
 ·by_cases q:g=f
  ·rw[q]; exact(vd f y fs).1
  ·refine(vd f y fs).2 g (wi g fun z=>hg ?_);show(if g=f then some u else mA g)=none
   rw[aQ q]; exact z
theorem Inv.made(I:Inv X ae σ H s):Inv X ae σ (upd (upd H s.heap.objs.size (.own (s.heap.objs.size+1))) (s.heap.objs.size+1) (.ins C s.heap.objs.size []))
  { s with heap:=(s.heap.push emptyDict).push (instObj C s.heap.objs.size) }:=by
 have e1:(s.heap.push emptyDict).get? s.heap.objs.size=some emptyDict:=dI s.heap rfl
 have e2:((s.heap.push emptyDict).push (instObj C s.heap.objs.size)).get? (s.heap.objs.size+1)=some (instObj C s.heap.objs.size):=by
  have:=dI (s.heap.push emptyDict) (o:=instObj C s.heap.objs.size) rfl
  rwa [iW] at this
 have e3:(s.heap.push emptyDict).Ns s.heap.objs.size (fun _=>none):=⟨emptyDict,#[],_,e1,rfl,(fun e he=>absurd he (by simp)),fun _=>rfl⟩
 have I1:=I.laid (a:=s.heap.objs.size) (o:=.own (s.heap.objs.size+1)) (h':=s.heap.push emptyDict) (t':=s.toks) (fun b u q=>eF _ q) (bJ _) ⟨_,e1⟩;refine I1.laid (a:=s.heap.objs.size+1) (o:=.ins C s.heap.objs.size []) (t':=s.toks) (fun b u q=>eF _ q) (Nat.le_of_eq (iW _ _)) ?_;have ne:s.heap.objs.size≠s.heap.objs.size+1:=fG (GR _);refine⟨by rw[aJ ne,aB],gU _,ne,e2,fun _=>none,(Heap.Ns1.of_empty e3).at fun o q=>eF _ q,fun _=>True.intro,fun y hy=>absurd rfl hy⟩
theorem Xl{prog:AC}{w:World}{env:Env}{e:Expr}{f:Str}{pos:Pos}{s:AB}{Q:AA->AB->Prop}(hb:attributeBase e f env (eval e env)=eval e env)
  (h:wpAny (model prog w) A (eval e env) (fun o s₁=>wpAny (model prog w) A (getAttr o f true) Q E s₁) E s):wpAny (model prog w) A (eval (.Attribute e f pos) env) Q E s:=
 Attribute_any_ h (by rw[arm_eval_Attribute,hb])
end
def Za(K:Frag)(ta:TE)(f:Str):TE:=fun σ H Q=>ta σ H fun x H1=>∃a C dx fs v,x=.ref a/\H1 a=some (.ins C dx fs)/\Gh K C/\dF K C f/\fs.lookup f=some v/\Q v H1
def Zt(K:Frag)(ta tv:TE)(f:Str):TS:=fun D σ H=>tv σ H fun y H1=>ta σ H1 fun x H2=>∃a C dx fs,x=.ref a/\H2 a=some (.ins C dx fs)/\Gh K C/\dF K C f/\fs.length<1000 /\
 D.nx σ (upd H2 a (.ins C dx (j0 f y fs)))
def adH(X:Cx)(op:Operator)(rd:V->V->Hp->VK->Prop):Prop:=
 ∀(ae:LA)(s:AB)(σ:St)(H:Hp)(x y:V)(u v:AA)(Q:VK),Inv X ae σ H s->RelV x u->RelV y v->rd x y H Q->wpAny (model X.prog X.w) X.A (inplaceOp op u v) (EP X ae σ Q) X.xe s
section
variable{X:Cx}{o e value:Expr}{f:Str}{pos pos' tpos:Pos}{ta tv:TE}
theorem ZV(he:PE X e ta)(hb:attributeBase e f X.env (eval e X.env)=eval e X.env):PE X (.Attribute e f pos) (Za X.K ta f):=by
 symm;intro Q I h;refine Xl hb (cT (he ae s σ H _ I h) fun u s1 qx=>?_);obtain⟨x,H1,I1,rx,a,C,dx,fs,v,ex,ea,c,n,l,q⟩:=qx;subst ex;obtain rfl:u=Value.ref a:=rx;exact Ko I1 ea c n l fun u' s2 I2 ru=>⟨v,H1,I2,ru,q⟩
theorem ZD(ha:PE X o ta)(hv:PE X value tv)(hs:swapsWith value (some (.Attribute o f pos')) pos.line X.env=pure false):PS X (.Assign [.Attribute o f pos'] value pos) (Zt X.K ta tv f):=by
 symm;intro D I h;refine plainObj_wpAny_Assign_Attribute (cT (hv ae s σ H _ I h) fun u s1 ⟨y,H1,I1,ry,q⟩=>cT (ha ae s1 σ H1 _ I1 q) fun ov s2 ⟨x,H2,I2,rx,a,C,dx,fs,ex,ea,c,n,l,q2⟩=>?_) hs;subst ex;obtain rfl:ov=Value.ref a:=rx;exact JC I2 ea c n l ry fun s3 I3=>⟨σ,_,I3,q2⟩
def afb:V->V->Hp->VK->Prop:=fun x y H Q=>∃i j,x=.int i/\y=.int j/\Q (.int (i+j)) H
theorem aao:adH X .Add afb:=by
 rintro ae s σ H x y u v Q I rx ry ⟨i,j,rfl,rfl,q⟩;obtain⟨t,rfl⟩:=(show ∃t,u=Value.int i t from rx);obtain⟨t',rfl⟩:=(show ∃t',v=Value.int j t' from ry);exact PyProof.Rows.iadd_int ⟨.int (i+j),H,I.tok _,⟨_,rfl⟩,q⟩
end
section
variable{X:Cx}{ae:LA}{σ:St}{H:Hp}{s:AB}{A:Around}{E:AA->AB->Prop}{Q:AA->AB->Prop}{c:AA}{b:Bool}
inductive uv(K:Frag)(H:Hp):V->AA->Prop where
 | non:uv K H .non (.type "NoneType")
 | bl (x:Bool):uv K H (.bl x) (.type "bool")
 | int (i:Int):uv K H (.int i) (.type "int")
 | str (x:Str):uv K H (.str x) (.type "str")
 | flt (x:UInt64):uv K H (.flt x) (.type "float")
 | lst {a:Addr} {xs:List V} (e:H a=some (.lst xs)):uv K H (.ref a) (.type "list")
 | tW {a:Addr} {o:Obj} {xs:List V} (e:H a=some (.tW o (.lst xs))):uv K H (.ref a) (.type "list")
 | tup {a:Addr} {xs:List V} (e:H a=some (.tup xs)):uv K H (.ref a) (.type "tuple")
 | dK {a:Addr} {kvs:List (Key×V)} (e:H a=some (.dK kvs)):uv K H (.ref a) (.type "dict")
 | dT {a:Addr} {kvs:List (List Key×V)} (e:H a=some (.dT kvs)):uv K H (.ref a) (.type "dict")
 | ins {a C dx:Addr} {fs:List (Str×V)} (e:H a=some (.ins C dx fs)) (cl:Gh K C) (ha:findIn K (.ref C) "__class__" = some (some (.builtin "object.__class__")))
   (hn:specialIn K (.builtin "object.__class__") "__get__" = some (some (.builtin "getset_descriptor.__get__"))) (htk:PySem.W.takesIn K (.builtin "object.__class__")=some true)
   (hm:mroIn K C (.type "object")=some true):uv K H (.ref a) (.ref C)
theorem PL{x:V}{u t:AA}(I:Inv X ae σ H s)(rx:RelV x u)(ty:uv X.K H x t)(e:kitOne X.K t c=some b)(h:∀tk,Q (.bool b) { s with toks:=tk }) :
  wpAny (model X.prog X.w) A (call (.builtin "isinstance") [u,c]) Q E s:=by
 cases ty with
 | non=>cases(show u=Value.none from rx); exact kia_one kitx_none I.mL True.intro e (fun z=>nomatch z) h
 | bl y=>cases(show u=Value.bool y from rx); exact kia_one kitx_bool I.mL True.intro e (fun z=>nomatch z) h
 | int i=>obtain⟨t,q⟩:=(show ∃t,u=Value.int i t from rx); cases q; exact kia_one kitx_int I.mL True.intro e (fun z=>nomatch z) h
 | str y=>obtain⟨t,q⟩:=(show ∃t,u=Value.str y t from rx); cases q; exact kia_one kitx_str I.mL True.intro e (fun z=>nomatch z) h
 | flt y=>obtain⟨t,q⟩:=(show ∃t,u=Value.float y t from rx); cases q; exact kia_one kitx_float I.mL True.intro e (fun z=>nomatch z) h
 | @lst a xs ea=>
  cases(show u=Value.ref a from rx);obtain⟨_,_,n,_,h1⟩:=(show bZ X.prog X.w H s.heap a (.lst xs) from I.hok a _ ea);exact kia_one kitx_list I.mL ⟨_,h1,rfl⟩ e (fun z=>nomatch z) h
 | @tW a ob xs ea=>
  cases(show u=Value.ref a from rx);obtain⟨_,_,_,n,_,h1⟩:=(show bZ X.prog X.w H s.heap a (.tW ob (.lst xs)) from I.hok a _ ea);exact kia_one kitx_list I.mL ⟨_,h1,rfl⟩ e (fun z=>nomatch z) h
 | @tup a xs ea=>
  cases(show u=Value.ref a from rx);obtain⟨_,_,_,p⟩:=(show bZ X.prog X.w H s.heap a (.tup xs) from I.hok a _ ea);obtain⟨o,h1,h2,_⟩:=p;exact kia_one kitx_tuple I.mL ⟨o,h1,h2⟩ e (fun z=>nomatch z) h
 | @dK a kvs ea=>
  cases(show u=Value.ref a from rx);obtain⟨_,_,vs,_,p⟩:=(show bZ X.prog X.w H s.heap a (.dK kvs) from I.hok a _ ea);obtain⟨o,es,ep,h1,h2,_⟩:=p;exact kia_one kitx_dict I.mL ⟨o,h1,h2.1⟩ e (fun z=>nomatch z) h
 | @dT a kvs ea=>
  cases(show u=Value.ref a from rx);obtain⟨_,_,xs,_,o,es,ep,h1,h2,_⟩:=(show bZ X.prog X.w H s.heap a (.dT kvs) from I.hok a _ ea);exact kia_one kitx_dict I.mL ⟨o,h1,h2.1⟩ e (fun z=>nomatch z) h
 | @ins a C dx fs ea cl ha hn htk hm=>
  cases(show u=Value.ref a from rx);obtain⟨mA,O,_⟩:=tQ I.hok ea;obtain⟨od,J,_⟩:=O.look;exact kia_one (kitx_own (cl.get _) cl.hd ha hn htk hm) I.mL J e (fun z=>nomatch z) h
end
structure fU(k:Nat)(A:Around):Prop where
 hd:A.handled=none
 dp:A.depth+3*k+5<recursionLimit
 un:A.units+16*k+200<cLine
 gd:A.guards=some []
theorem fU.mono{j k:Nat}{A:Around}(r:fU k A)(h:j<=k):fU j A:=⟨r.hd,by have:=r.dp; omega,by have:=r.un; omega,r.gd⟩
theorem fU.deeper{k:Nat}{A:Around}(r:fU (k+1) A)(env:Env):fU k (A.deeper env):=
 ⟨r.hd,by have:=r.dp; show A.depth+1+3*k+5<_; omega,by have:=r.un; show A.units+3+16*k+200<_; omega,by first | exact r.gd | (simpa[Around.deeper,Around.under,Code.guards,Code.isGuard,guardIds,pushGuards] using r.gd)⟩
theorem Kd{A:Around}{C:Addr}{us:List AA}{kw:List (Str×AA)}:(A.under (.builtin "type.__call__" ⟨.ref C::us,kw⟩)).depth=A.depth+1:=by
 first | rfl | simp[Around.under,Code.weight,Code.isCreation,Code.isGuard,Code.isCaller,Code.frames,Code.isFrame,guardIds]
theorem Kc{A:Around}{C:Addr}{us:List AA}{kw:List (Str×AA)}:(A.under (.builtin "type.__call__" ⟨.ref C::us,kw⟩)).units=A.units+1:=by
 first | rfl | simp[Around.under,Code.cUnits,Code.frames,Code.isFrame]
theorem fU.make{k:Nat}{A:Around}(r:fU (k+1) A)(C:Addr)(us:List AA)(kw:List (Str×AA)):fU k (A.under (.builtin "type.__call__" ⟨.ref C::us,kw⟩)):=
 ⟨r.hd,by have:=r.dp; rw[Kd]; omega,by have:=r.un; rw[Kc]; omega,by first | exact r.gd | (simpa[Around.deeper,Around.under,Code.guards,Code.isGuard,guardIds,pushGuards] using r.gd)⟩
theorem fU.depth{k:Nat}{A:Around}(r:fU k A):A.depth<recursionLimit:=by have:=r.dp; omega
theorem fU.units{k:Nat}{A:Around}(r:fU k A):A.units+64<cLine:=by have:=r.un; omega
def Gq:TA:=fun _ H Q=>Q [] H
def sH(ta:TE)(tr:TA):TA:=fun σ H Q=>ta σ H fun x H1=>tr σ H1 fun xs H2=>Q (x::xs) H2
section
variable{X:Cx}{e:Expr}{es:List Expr}{te:TE}{t:TA}{pos:Pos}
theorem ak:PA X [] Gq:=.mk <| fun _ _ _ _ H Q I h=>Calls.spliced_nil ⟨[],H,I,.nil,h⟩
theorem Wi(ha:PE X e te)(hr:PA X es t)(hs: ~~~(starEach (e::es) X.env=(false,eval e X.env)::starEach es X.env)):PA X (e::es) (sH te t):=by
 refine .mk ?_;intro pos ae s σ H Q I h;rw[hs];show wpAny _ _ (spliced ((false,eval e X.env)::backTo pos (starEach es X.env))) _ _ s;refine Calls.spliced_cons (cT (ha ae s σ H _ I h) fun u s1 qx=>?_);obtain⟨x,H1,I1,r1,q1⟩:=qx;exact cT (hr pos ae s1 σ H1 _ I1 q1) fun us s2 ⟨xs,H2,I2,r2,q2⟩=>⟨x::xs,H2,I2,.cons r1 r2,q2⟩
def Y9(t:TA):TE:=fun σ H Q=>t σ H fun xs H1=>xs.length<=sizeLine/\∀p,H1 p=none->Q (.ref p) (upd H1 p (.tup xs))
def abQ(t:TA):TE:=fun σ H Q=>t σ H fun xs H1=>xs.length<=sizeLine/\∀p,H1 p=none->Q (.ref p) (upd H1 p (.lst xs))
theorem R8{x1}(h:PA X es t):PE X (.Tuple es x1 pos) (Y9 t):=by
 symm;intro Q I hq;refine wpAny_Tuple_spliced (cT (h pos ae s σ H _ I hq) fun us s1 ⟨xs,H1,I1,r,z,q⟩=>⟨by rw[<- r.length]; exact z,?_⟩)
 have hf:H1 s1.heap.objs.size=none:=I1.hok.fresh (bJ _);refine⟨.ref s1.heap.objs.size,upd H1 s1.heap.objs.size (.tup xs),I1.laid (t':=s1.toks) (fun b u e=>eF _ e) (bJ _) ?_,rfl,q _ hf⟩;exact⟨z,us,r,⟨_,dI _ rfl,rfl,_,rfl⟩⟩
theorem R_(h:PA X es t):PE X (.List es pos) (abQ t):=by
 symm;intro Q I hq;refine wpAny_List_spliced (cT (h pos ae s σ H _ I hq) fun us s1 ⟨xs,H1,I1,r,z,q⟩=>⟨by rw[<- r.length]; exact z,?_⟩)
 have hf:H1 s1.heap.objs.size=none:=I1.hok.fresh (bJ _);refine⟨.ref s1.heap.objs.size,upd H1 s1.heap.objs.size (.lst xs),I1.laid (t':=s1.toks) (fun b u e=>eF _ e) (bJ _) ?_,rfl,q _ hf⟩;exact⟨z,us,0,r,dI _ rfl⟩
end
abbrev Sp:=List V->Hp->VK->XK->Prop
abbrev Ob:=List Env->Hp->AB->XK->AA->AB->Prop
structure Lj(P:AC)(w:World)(K:Frag)(mg:Str->Option AA)(base:Heap)(A:Around)(outer:List Env)(s:AB)(H:Hp):Prop where
 frames:A.frames=some outer
 mod:Mod K mg base
 bs:∀b o,base.get? b=some o->s.heap.get? b=some o/\H b=none
 Qw:base.objs.size<=s.heap.objs.size
 vf:s.heap.FunFrames base outer
 Yl:∀b∈frs outer,H b=none
 hok:lJ P w H s.heap
 bare:AllBare s.gens
def CE(outer:List Env)(P:AC)(w:World)(H:Hp)(s:AB)(Q:VK)(u:AA)(s':AB):Prop:=
 ∃v H',s'.os=s.os/\AllBare s'.gens/\Un (frs outer) [] H H' s.heap s'.heap/\lJ P w H' s'.heap/\RelV v u/\Q v H'
def CR(CX:Ob)(outer:List Env)(P:AC)(w:World)(H:Hp)(s:AB)(Q:VK)(E:XK)(r:Result)(s':AB):Prop:=
 match r with
 | .ok (.ret u)=>CE outer P w H s Q u s'
 | .ok _=>False
 | .error e=>CX outer H s E e s'
structure bI(P:AC)(w:World)(K:Frag)(mg:Str->Option AA)(base:Heap)(CX:Ob)(k:Nat)(f:Addr)(fd:FuncData)(ps:List Str)(sp:Sp):Prop where
 len:∀vs H Q E,sp vs H Q E->vs.length=ps.length
 run:∀(A:Around)(outer:List Env)(s:AB)(H:Hp)(args:Args)(us:List AA)(vs:List V)(Q:VK)(E:XK),fU k A->Lj P w K mg base A outer s H->BindsTo s fd args (ps.zip us)->Vals vs us->sp vs H Q E ->
  codeAny (model P w) A (.call (.ref f) args) (CR CX outer P w H s Q E) s
theorem bI.mono{P:AC}{w:World}{K:Frag}{mg:Str->Option AA}{base:Heap}{CX:Ob}{j k:Nat}{f:Addr}{fd:FuncData}{ps:List Str}{sp:Sp}(F:bI P w K mg base CX j f fd ps sp)(h:j<=k) :
  bI P w K mg base CX k f fd ps sp:=⟨F.len,fun A outer s H args us vs Q E hr=>F.run A outer s H args us vs Q E (hr.mono h)⟩
theorem Lj.make{P:AC}{w:World}{K:Frag}{mg:Str->Option AA}{base:Heap}{A:Around}{outer:List Env}{s:AB}{H:Hp}(e:Lj P w K mg base A outer s H)(C:Addr)(us:List AA)(kw:List (Str×AA)) :
  Lj P w K mg base (A.under (.builtin "type.__call__" ⟨.ref C::us,kw⟩)) outer s H:=⟨by first | exact e.frames | (simpa[Around.under,Code.envs,Code.isFrame,pushEnvs] using e.frames),e.mod,e.bs,e.Qw,e.vf,e.Yl,e.hok,e.bare⟩
section
variable{X:Cx}{ae:LA}{σ:St}{H:Hp}{s s':AB}
theorem Inv.env0(I:Inv X ae σ H s):Lj X.prog X.w X.K X.mg X.base X.A X.stack s H:=
 ⟨I.ok.frames,I.ok.mod,I.bs,lW I.ok.Qw I.sz,I.stack,I.wU,I.hok,I.bare⟩
theorem Inv.after{Q:VK}{u:AA}(I:Inv X ae σ H s)(h:CE X.stack X.prog X.w H s Q u s'):EP X ae σ Q u s':=by
 obtain⟨v,H',os,bare,un,hok,r,q⟩:=h;obtain⟨hh,g,d,t,os'⟩:=s';obtain rfl:os'=s.os:=os;exact⟨v,H',I.call (h':=hh) (g':=g) (d':=d) (t':=t) (ch:=[]) un hok bare (fun b z=>absurd z (by simp)),r,q⟩
end
def nJ(sp:Sp)(wO:List V)(E:XK)(t:TA):TE:=fun σ H Q=>t σ H fun vs H1=>sp (vs++wO) H1 Q E
def Gr(C:Addr)(m:Str)(sp:Sp)(wO:List V)(E:XK)(ta:TE)(t:TA):TE:=fun σ H Q=>ta σ H fun x H1=>∃a dx fs,x=.ref a/\H1 a=some (.ins C dx fs)/\fs.lookup m=none /\
 t σ H1 fun vs H2=>sp (x::(vs++wO)) H2 Q E
def Rf(C:Addr)(sp:Sp)(wO:List V)(E:XK)(t:TA):TE:=fun σ H Q=>t σ H fun vs H1=>∀x dx,H1 x=none->H1 dx=none->dx≠x ->
 sp (.ref x::(vs++wO)) (upd (upd H1 dx (.own x)) x (.ins C dx [])) (fun v H2=>v=.non/\Q (.ref x) H2) E
def Binds(K:Frag)(fd:FuncData)(ps:List Str)(ds:List AA):Prop:=
 ∀(s:AB)(us:List AA),K.In s.heap->(us++ds).length=ps.length->BindsTo s fd ⟨us,[]⟩ (ps.zip (us++ds))
theorem Binds.all{K:Frag}{fd:FuncData}{ps:List Str}(h:∀us:List AA,us.length=ps.length->bindArgs fd ⟨us,[]⟩=pure (ps.zip us)):Binds K fd ps []:=fun s us _ hl=>by
 rw[q_] at hl ⊢;exact .of_eq (h us hl)
def Passes(CX:Ob)(X:Cx)(E:XK):Prop:=∀(ae:LA)(σ:St)(H:Hp)(s:AB)(e:AA)(s':AB),Inv X ae σ H s->CX X.stack H s E e s'->X.xe e s'
section
variable{X:Cx}{CX:Ob}{k:Nat}{f C:Addr}{fd:FuncData}{ps:List Str}{sp:Sp}{wO:List V}{ds:List AA}{E:XK}{x m:Str}{p pos apos:Pos}{e o:Expr}{es:List Expr}{ta:TE}{t:TA}
theorem JH{ae:LA}{σ:St}{H:Hp}{s:AB}{Q:VK}{us:List AA}{vs:List V}(F:bI X.prog X.w X.K X.mg X.base CX k f fd ps sp)(hr:fU k X.A)(hb:Binds X.K fd ps ds)(hd:Vals wO ds)(hx:Passes CX X E)
  (I:Inv X ae σ H s) (r:Vals vs us) (h:sp (vs++wO) H Q E):wpAny (model X.prog X.w) X.A (call (.ref f) us) (EP X ae σ Q) X.xe s:=by
 have r2:Vals (vs++wO) (us++ds):=r.append hd;have hl:(us++ds).length=ps.length:=by rw[<- r2.length]; exact F.len _ _ _ _ h
 refine wpAny_call (codeAny_mono (F.run X.A X.stack s H ⟨us,[]⟩ (us++ds) (vs++wO) Q E hr I.env0 (hb s us I.mL hl) r2 h) fun r s' hq=>?_);cases r with
 | error e=>exact hx ae σ H s e s' I hq
 | ok fl=>
  cases fl with
  | ret u=>exact I.after hq
  | next=>exact False.elim hq
  | brk=>exact False.elim hq
  | cont=>exact False.elim hq
theorem Mz(F:bI X.prog X.w X.K X.mg X.base CX k f fd ps sp)(hr:fU k X.A)(hg:Gl X x)(hm:X.mg x=some (.ref f))(hk:keepIn X.K (.ref f)=true)(hb:Binds X.K fd ps ds)(hd:Vals wO ds)(hx:Passes CX X E)
  (ha:PA X (e::es) t) (hdb:((x==("__debug__" : Str))=false)⁻¹) (he: ~~~(starEach (e::es) X.env=(false,eval e X.env)::starEach es X.env)) (hpl: ~~~((backTo pos (starEach es X.env)).any (·.1)=false)) :
  PE X (.Call (.Name x p) (e::es) [] pos) (nJ sp wO E t):=by
 symm;intro Q I h;refine uV (tO I hg hm ?_ hdb);refine callWith_K (h₀:=X.base) I.ok.mod.Tc hk (cT (ha pos ae s σ H _ I h) fun us s1 ⟨vs,H1,I1,r,q⟩=>⟨I1.mL,?_⟩) he hpl;exact JH F hr hb hd hx I1 r q
theorem Wd{pl:Sem Bool}(he:PE X o ta)(c:Gh X.K C)(hm:Meth X.K C m f)(F:bI X.prog X.w X.K X.mg X.base CX k f fd ps sp)(hr:fU k X.A)(hb:Binds X.K fd ps ds)(hd:Vals wO ds)(hx:Passes CX X E)(ha:PA X (e::es) t)
  (hst: ~~~(starEach (e::es) X.env=(false,eval e X.env)::starEach es X.env)) (hpl: ~~~((backTo pos (starEach es X.env)).any (·.1)=false))
  (ht: ~~~(eval (.Call (.Attribute o m apos) (e::es) [] pos) X.env=(do
   let ov <- eval o X.env
   standAt apos.atName
   let (f,first) <- holding [ov] (getMethod ov m pl)
   callWith pos f first (backTo pos (starEach (e::es) X.env)) (backToKw pos (keywordEach [] X.env))))) :
  PE X (.Call (.Attribute o m apos) (e::es) [] pos) (Gr C m sp wO E ta t):=by
 symm;intro Q I h;refine methodCall_KW (pl:=pl) (cT (he ae s σ H _ I h) fun u s1 ⟨x,H1,I1,rx,a,dx,fs,ex,ea,l,q⟩=>?_) ht;subst ex;obtain rfl:u=Value.ref a:=rx;refine rN I1 ea c hm l ?_;refine callWith_K (first:=[.ref a]) (h₀:=X.base) I.ok.mod.Tc hm.kp (cT (ha pos ae s1 σ H1 _ I1 q) fun us s2 ⟨vs,H2,I2,r,q2⟩=>⟨I2.mL,?_⟩) hst hpl
 exact JH (us:=.ref a::us) (vs:=.ref a::vs) F hr hb hd hx I2 (.cons rfl r) q2
theorem R9{pl:Sem Bool}(he:PE X o ta)(c:Gh X.K C)(hm:Meth X.K C m f)(F:bI X.prog X.w X.K X.mg X.base CX k f fd ps sp)(hr:fU k X.A)(hb:Binds X.K fd ps ds)(hd:Vals wO ds)(hx:Passes CX X E)
  (ht: ~~~(eval (.Call (.Attribute o m apos) [] [] pos) X.env=(do
   let ov <- eval o X.env
   standAt apos.atName
   let (f,first) <- holding [ov] (getMethod ov m pl)
   callWith pos f first (backTo pos (starEach [] X.env)) (backToKw pos (keywordEach [] X.env))))) :
  PE X (.Call (.Attribute o m apos) [] [] pos) (Gr C m sp wO E ta Gq):=by
 symm;intro Q I h;refine methodCall_KW (pl:=pl) (cT (he ae s σ H _ I h) fun u s1 ⟨x,H1,I1,rx,a,dx,fs,ex,ea,l,q⟩=>?_) ht;subst ex;obtain rfl:u=Value.ref a:=rx;refine rN I1 ea c hm l ?_;exact PySem.W.callWith_K0 (first:=[.ref a]) I1.mL hm.kp (JH (us:=[.ref a]) (vs:=[.ref a]) F hr hb hd hx I1 (.cons rfl .nil) q)
structure Mk(K:Frag)(C f:Addr):Prop where
 makes:makesIn K C=true
 init:findIn K (.ref C) "__init__" = some (some (.ref f))
 fn:isFn K (.ref f)=true
 kp:keepIn K (.ref C)=true
theorem RJ{ae:LA}{σ:St}{H:Hp}{s:AB}{Q:VK}{us:List AA}{vs:List V}(M:Mk X.K C f)(F:bI X.prog X.w X.K X.mg X.base CX k f fd ps sp)(hr:fU (k+1) X.A)(hb:Binds X.K fd ps ds)(hd:Vals wO ds)
  (hx:Passes CX X E) (I:Inv X ae σ H s) (r:Vals vs us)
  (h:∀x dx,H x=none->H dx=none->dx≠x->sp (.ref x::(vs++wO)) (upd (upd H dx (.own x)) x (.ins C dx [])) (fun v H2=>v=.non/\Q (.ref x) H2) E) :
  wpAny (model X.prog X.w) X.A (call (.ref C) us) (EP X ae σ Q) X.xe s:=by
 have hq:=h (s.heap.objs.size+1) s.heap.objs.size (I.hok.fresh (Ci _)) (I.hok.fresh (bJ _)) (fG (GR _));have I2:=Inv.made (C:=C) I;have r2:Vals (V.ref (s.heap.objs.size+1)::(vs++wO)) (Value.ref (s.heap.objs.size+1)::(us++ds)):=.cons rfl (r.append hd)
 have hl:(Value.ref (s.heap.objs.size+1)::us++ds).length=ps.length:=by
  have e:=r2.length;rw[F.len _ _ _ _ hq] at e;exact e.symm
 refine wpAny_call (S5 (f:=f) I.mL M.makes M.init (beq_iff_eq.mp M.fn) (codeAny_mono (F.run _ X.stack _ _ ⟨Value.ref (s.heap.objs.size+1)::us,[]⟩ (Value.ref (s.heap.objs.size+1)::(us++ds)) _ _ E (hr.make C us [])
  (I2.env0.make C us []) (hb _ (Value.ref (s.heap.objs.size+1)::us) I2.mL hl) r2 hq) fun r s' hq'=>?_))
 cases r with
 | error e=>exact hx ae σ _ _ e s' I2 hq'
 | ok fl=>
  cases fl with
  | ret u=>
   obtain⟨v,H',I3,rv,ev,q3⟩:=I2.after hq';subst ev;exact⟨rv,⟨V.ref (s.heap.objs.size+1),H',I3,rfl,q3⟩⟩
  | next=>exact False.elim hq'
  | brk=>exact False.elim hq'
  | cont=>exact False.elim hq'
theorem Wf(M:Mk X.K C f)(F:bI X.prog X.w X.K X.mg X.base CX k f fd ps sp)(hr:fU (k+1) X.A)(hg:Gl X x)(hm:X.mg x=some (.ref C))(hb:Binds X.K fd ps ds)(hd:Vals wO ds)(hx:Passes CX X E)
  (ha:PA X (e::es) t) (hdb:((x==("__debug__" : Str))=false)⁻¹) (he: ~~~(starEach (e::es) X.env=(false,eval e X.env)::starEach es X.env)) (hpl: ~~~((backTo pos (starEach es X.env)).any (·.1)=false)) :
  PE X (.Call (.Name x p) (e::es) [] pos) (Rf C sp wO E t):=by
 symm;intro Q I h;refine uV (tO I hg hm ?_ hdb);refine callWith_K (h₀:=X.base) I.ok.mod.Tc M.kp (cT (ha pos ae s σ H _ I h) fun us s1 ⟨vs,H1,I1,r,q⟩=>⟨I1.mL,?_⟩) he hpl;exact RJ M F hr hb hd hx I1 r q
end
def PK(X:Cx)(kws:List Keyword)(t:TA):Prop:=
 ∀(pos:Pos)(ae:LA)(s:AB)(σ:St)(H:Hp)(Q:List V->Hp->Prop),Inv X ae σ H s->t σ H Q->wpAny (model X.prog X.w) X.A (evalAll ((backToKw pos (keywordEach kws X.env)).map (·.2))) (AP X ae σ Q) X.xe s
section
variable{X:Cx}{CX:Ob}{k:Nat}{f C:Addr}{fd:FuncData}{ps ks:List Str}{sp:Sp}{E:XK}{x m:Str}{p pos apos WN:Pos}{e o:Expr}{es:List Expr}{kws:List Keyword}{te ta:TE}{t tk:TA}{nm:Option Str}
theorem ZG:PK X [] Gq:=fun _ _ _ _ H Q I h=>wpAny_evalAll_nil ⟨[],H,I,.nil,h⟩
theorem V0(ha:PE X e te)(hr:PK X kws t):PK X (⟨nm,e,WN⟩::kws) (sH te t):=by
 intro pos ae s σ H Q I h;show wpAny _ _ (evalAll ((do let v <- eval e X.env; standAt pos; pure v)::(backToKw pos (keywordEach kws X.env)).map (·.2))) _ _ s
 refine wpAny_evalAll_cons (bh (cT (ha ae s σ H _ I h) fun u s1 ⟨x,H1,I1,r1,q1⟩=>bh (Ag (cH ?_))));exact cT (hr pos ae s1 σ H1 _ I1 q1) fun us s2 ⟨xs,H2,I2,r2,q2⟩=>⟨x::xs,H2,I2,.cons r1 r2,q2⟩
structure agY(K:Frag)(fd:FuncData)(ps ks:List Str)(g:List AA->List AA->List AA)(gV:List V->List V->List V):Prop where
 to:∀(s:AB)(us ws:List AA),K.In s.heap->(g us ws).length=ps.length->BindsTo s fd ⟨us,ks.zip ws⟩ (ps.zip (g us ws))
 rel:∀{vs:List V}{us:List AA}{zs:List V}{ws:List AA},Vals vs us->Vals zs ws->Vals (gV vs zs) (g us ws)
variable{g:List AA->List AA->List AA}{gV:List V->List V->List V}
end
structure bf(N P:List Str)(sc:Scope):Prop where
 kind:sc.kind=.function
 co:sc.isCoroutine=false
 gen:sc.isGenerator=false
 nd:N.Nodup
 pre:N.take P.length=P
 par:∀x∈P,sc.names.lookup x=some .local\/sc.names.lookup x=some .cell
 Z5:∀y∈sc.names,y.2≠.free
theorem Dr{kindOf:Str->Option NameKind}{x:Str}:∀{binds:List (Str×AA)}{m:Str->Option AA},(∀v,(x,v)∉binds)->bindL kindOf binds m x=m x
 | [],_,_=>rfl
 | (n,v)::r,m,h=>by
  unfold bindL;rw[Dr fun w hw=>h w (jb _ hw)];split
  ·have:x≠n:=by rintro rfl; exact h v iK
   simp[this]
  ·rfl
theorem Dt{kindOf:Str->Option NameKind}{x:Str}:∀{binds:List (Str×AA)}{m:Str->Option AA},(∀v,(x,v)∉binds)->bindC kindOf binds m x=m x
 | [],_,_=>rfl
 | (n,v)::r,m,h=>by
  unfold bindC;rw[Dt fun w hw=>h w (jb _ hw)];split
  ·rfl
  ·have:x≠n:=by rintro rfl; exact h v iK
   simp[this]
theorem Ds{kindOf:Str->Option NameKind}{x:Str}{v:AA}:∀{P:List Str}{vs:List AA}{i:Nat}{m:Str->Option AA},P.Nodup->P[i]?=some x->vs[i]?=some v->kindOf x=some .local ->
  bindL kindOf (P.zip vs) m x=some v
 | [],_,_,_,_,h,_,_=>by simp at h
 | _::_,[],_,_,_,_,h,_=>by simp at h
 | p::P,w::vs,0,m,nd,h1,h2,hk=>by
  simp at h1 h2; subst h1; subst h2;show bindL kindOf ((p,w)::P.zip vs) m p=_;unfold bindL;rw[Dr fun v hv=>(jY.mp nd).1 (Hn hv).1,aX hk];simp
 | p::P,w::vs,i+1,m,nd,h1,h2,hk=>by
  show bindL kindOf ((p,w)::P.zip vs) m x=_;unfold bindL;exact Ds (i:=i) (jY.mp nd).2 (by simpa using h1) (by simpa using h2) hk
theorem Du{kindOf:Str->Option NameKind}{x:Str}{v:AA}:∀{P:List Str}{vs:List AA}{i:Nat}{m:Str->Option AA},P.Nodup->P[i]?=some x->vs[i]?=some v->kindOf x≠some .local ->
  bindC kindOf (P.zip vs) m x=some v
 | [],_,_,_,_,h,_,_=>by simp at h
 | _::_,[],_,_,_,_,h,_=>by simp at h
 | p::P,w::vs,0,m,nd,h1,h2,hk=>by
  simp at h1 h2; subst h1; subst h2;show bindC kindOf ((p,w)::P.zip vs) m p=_;unfold bindC;rw[Dt fun v hv=>(jY.mp nd).1 (Hn hv).1,aQ hk];simp
 | p::P,w::vs,i+1,m,nd,h1,h2,hk=>by
  show bindC kindOf ((p,w)::P.zip vs) m x=_;unfold bindC;exact Du (i:=i) (jY.mp nd).2 (by simpa using h1) (by simpa using h2) hk
def start(N:List Str)(vs:List V):St:=vs.map some++List.replicate (N.length-vs.length) none
def iC(CX:Ob)(P:AC)(w:World)(K:Frag)(mg:Str->Option AA)(base:Heap)(N:List Str)(qual:Str)(scope:Scope)(f:Addr)(cd:AA)(A:Around)(outer:List Env)(s:AB)(H:Hp)(E:XK):Cx where
 prog:=P
 w:=w
 K:=K
 mg:=mg
 base:=base
 A:=A.deeper (envOfC qual scope s.heap.objs.size f cd)
 N:=N
 s₀:=s
 H₀:=H
 env:=envOfC qual scope s.heap.objs.size f cd
 outer:=outer
 stack:=envOfC qual scope s.heap.objs.size f cd::outer
 ex:=[]
 calm:=true
 fn:=fun _=>true
 pn:=[]
 xe:=fun e s'=>wpAny (model P w) (A.deeper (envOfC qual scope s.heap.objs.size f cd)) (leaving (envOfC qual scope s.heap.objs.size f cd) e) (fun _ s''=>CX outer H s E e s'') (fun e' s''=>CX outer H s E e' s'') s'
theorem Io{sc:Scope}{n:Nat}{x:Str}(h:sc.names.lookup x=some .cell):∃c,(cellsFrom n sc.names []).lookup x=some c:=by
 have q:=cellsFrom_some sc.names n [] (.inl h);exact O1.mp q
theorem CW{CX:Ob}{P:AC}{w:World}{K:Frag}{mg:Str->Option AA}{base:Heap}{N ps:List Str}{qual:Str}{scope:Scope}{f:Addr}{cd:AA}{A:Around}{outer:List Env}{s s1:AB}{H:Hp}{E:XK}{us:List AA}{vs:List V}
  (S:bf N ps scope) (hd:A.handled=none) (e0:Lj P w K mg base A outer s H) (hl:vs.length=ps.length) (r:Vals vs us)
  (x:InCallC s s.heap.objs.size (bindL (envOfC qual scope s.heap.objs.size f cd).kindOf (ps.zip us) fun _=>none) (cellsFrom (s.heap.objs.size+1) scope.names []) (bindC (envOfC qual scope s.heap.objs.size f cd).kindOf (ps.zip us) fun _=>none) s1) :
  Inv (iC CX P w K mg base N qual scope f cd A outer s H E) [] (start N vs) H s1:=by
 have hpl:ps.length<=N.length:=by have:=m8 List.length S.pre; rw[k_] at this; omega
 obtain⟨h1,tk,rfl,hk⟩:=x.done;have noA:∀b:Addr,b∉(iC CX P w K mg base N qual scope f cd A outer s H E).ex:=fun b z=>absurd (show b∈([]:List Addr) from z) (by simp)
 refine⟨⟨e0.mod,S.kind,rfl,rfl,bJ _,fun y z c h1 h2=>?_,fun y hy=>?_,fun y c _ h=>?_,fun _=>hd,Around.frames_deeper e0.frames,.inr ⟨rfl,rfl⟩,fun b z=>absurd z (noA b),e0.bs,e0.Qw,fun b _ _=>noA b,fun b z=>absurd z (noA b),e0.vf,e0.Yl⟩,
  rfl,e0.bare,Un.kept hk,⟨_,x.toInCall.ns,fun i y v h1 h2 h3=>?_⟩,fun y c h=>⟨_,x.cell y c h⟩,e0.hok.fresh (bJ _),fun y c h=>?_,fun p hp=>absurd (show p∈([]:LA) from hp) (by simp),e0.hok.kept hk,?_⟩
 ·exact name_of_addr x.apart (PySem.mem_of_lookup h1) (PySem.mem_of_lookup h2)
 ·have hy:scope.names.lookup y=some .cell\/scope.names.lookup y=some .free:=hy;rcases hy with hy | hy
  ·exact Io hy
  ·exact absurd rfl (S.Z5 _ (PySem.mem_of_lookup hy))
 ·exact jE (x.above y c (PySem.mem_of_lookup h))
 ·have hi:i<vs.length:=by
   unfold start at h2;by_cases hi:i<vs.length
   ·exact hi
   ·rw[Ef (by simpa using hi)] at h2
    rw[Ms] at h2;split at h2 <;> cases h2
  have ha:vs[i]?=some v:=by
   unfold start at h2;rw[JR (by simpa using hi),cM] at h2
   cases e:vs[i]? with
   | none=>rw[e] at h2; cases h2
   | some a=>rw[e] at h2; cases h2; rfl
  obtain⟨u,hu,rv⟩:=r.get ha
  have hp:ps[i]?=some y:=by
   rw[<- S.pre,List.getElem?_take_of_lt ∅]; exact h1
  have ndP:ps.Nodup:=by rw[<- S.pre]; exact S.nd.sublist (List.take_sublist _ _)
  refine⟨u,rv,?_⟩;rcases S.par y (dz hp) with k | k
  ·exact .inl ⟨k,Ds ndP hp hu k⟩
  ·obtain⟨c,e⟩:=Io (n:=s.heap.objs.size+1) k;refine .inr ⟨.inl k,c,e,?_⟩;have q:=x.cell y c e;rw[Du ndP hp hu (by show scope.names.lookup y≠_; rw[k]; decide)] at q
   exact q
 ·exact e0.hok.fresh (jE (x.above y c (PySem.mem_of_lookup h)))
 ·unfold start;show _=N.length;rw[dg,bW,uW];omega
theorem Yo{CX:Ob}{P:AC}{w:World}{K:Frag}{mg:Str->Option AA}{base:Heap}{k:Nat}{f:Addr}{name qual:Str}{params:Arguments}{body:List Stmt}{scope:Scope}{dV kV doc pm cdv ct oc:AA}{an od:Option Addr}
  {osl:Array (Option AA)} {N ps:List Str} {sp:Sp} (lk:K.lookup f=some ⟨oc,od,.func (fnOf name qual params body scope dV kV doc pm an cdv ct),osl⟩) (hcd:codeIn K cdv qual=true) (S:bf N ps scope)
  (len:∀vs H Q E,sp vs H Q E->vs.length=ps.length)
  (hbody:∀(A:Around)(outer:List Env)(s:AB)(H:Hp)(vs:List V)(Q:VK)(E:XK),fU k (A.deeper (envOfC qual scope s.heap.objs.size f cdv))->sp vs H Q E ->
   ∃t,Dw (iC CX P w K mg base N qual scope f cdv A outer s H E) body t/\t { nx:=fun _ H'=>Q .non H',rt:=Q } (start N vs) H) :
  bI P w K mg base CX (k+1) f (fnOf name qual params body scope dV kV doc pm an cdv ct) ps sp:=by
 refine⟨len,fun A outer s H args us vs Q E hr e0 hb r hsp=>?_⟩;have hl:=len _ _ _ _ hsp;have KX:K.In s.heap:=e0.mod.Tc.keeps fun b o e=>(e0.bs b o e).1;have lim:s.heap.NoLimit:=e0.mod.nolimit.keeps fun b o e=>(e0.bs b o e).1
 have hkind:∀y∈ps.zip us,scope.names.lookup y.1=some .local\/(scope.names.lookup y.1=some .cell/\((cellsFrom (s.heap.objs.size+1) scope.names []).lookup y.1).isSome=true):=fun⟨n,v⟩ hy=>by
  rcases S.par n (Hn hy).1 with q | q
  ·exact .inl q
  ·exact .inr ⟨q,cellsFrom_some _ _ _ (.inl q)⟩
 refine codeAny_call_function hr.depth (KX _ _ lk) rfl S.co S.gen rfl (codeRec_of KX hcd) (hb _ _ _ _ ?_);refine wpAny_newFunctionEnv_cells S.kind hkind fun env he s1 x=>?_;subst he;refine⟨lim.keeps x.toInCall.keep,codeAny_func ?_⟩;obtain⟨t,ht,hq⟩:=hbody A outer s H vs Q E (hr.deeper _) hsp;have I:Inv (iC CX P w K mg base N qual scope f cdv A outer s H E) [] (start N vs) H s1:=CW S hr.hd e0 hl r x;refine jW (ht [] s1 (start N vs) H _ I hq) (fun fl s' hs=>?_) fun e s' hs=>hs
 have fin:∀{σ':St}{H':Hp}{v:V}{u:AA},Inv (iC CX P w K mg base N qual scope f cdv A outer s H E) [] σ' H' s'->RelV v u->Q v H'->CE outer P w H s Q u s':=
  fun {σ' H' v u} J rv q=>⟨v,H',J.os,J.bare,J.base,J.hok,rv,q⟩
 cases fl with
 | ret u=>
  obtain⟨v,σ',H',J,rv,q⟩:=hs;exact fin J rv q
 | next=>
  obtain⟨σ',H',J,q⟩:=hs;exact fin (v:=V.non) (u:=Value.none) J rfl q
 | brk=>
  obtain⟨_,_,_,q⟩:=hs;exact False.elim q
 | cont=>
  obtain⟨_,_,_,q⟩:=hs;exact False.elim q
section
variable{X:Cx}{x:Str}{p pos:Pos}{e:Expr}{es:List Expr}{t:TA}{id T:String}{r:List V->Hp->VK->Prop}
def tCB(r:List V->Hp->VK->Prop)(t:TA):TE:=fun σ H Q=>t σ H fun vs H1=>r vs H1 Q
theorem Sg(hc:dG X (.builtin id) r)(hg:Gl X x)(hm:X.mg x=none)(hv:bootBuiltins x=some (.builtin id))(ha:PA X (e::es) t)(hn:(x ≠ "__name__")⁻¹)(hdb:((x==("__debug__" : Str))=false)⁻¹)
  (he: ~~~(starEach (e::es) X.env=(false,eval e X.env)::starEach es X.env)) (hpl: ~~~((backTo pos (starEach es X.env)).any (·.1)=false)):PE X (.Call (.Name x p) (e::es) [] pos) (tCB r t):=by
 symm;intro Q I h;refine uV (jy I hg hm hv ?_ hn hdb);exact PyProof.Rows.callWith_builtin1 (cT (ha pos ae s σ H _ I h) fun us s1 ⟨vs,H1,I1,r1,q1⟩=>hc ae s1 σ H1 vs us Q I1 r1 q1) he hpl
theorem O4(hc:dG X (.type T) r)(hg:Gl X x)(hm:X.mg x=none)(hv:bootBuiltins x=some (.type T))(ha:PA X (e::es) t)(hn:(x ≠ "__name__")⁻¹)(hdb:((x==("__debug__" : Str))=false)⁻¹)
  (he: ~~~(starEach (e::es) X.env=(false,eval e X.env)::starEach es X.env)) (hpl: ~~~((backTo pos (starEach es X.env)).any (·.1)=false)):PE X (.Call (.Name x p) (e::es) [] pos) (tCB r t):=by
 symm;intro Q I h;refine uV (jy I hg hm hv ?_ hn hdb);exact PyProof.Rows.callWith_type1 (cT (ha pos ae s σ H _ I h) fun us s1 ⟨vs,H1,I1,r1,q1⟩=>hc ae s1 σ H1 vs us Q I1 r1 q1) he hpl
end
end _L
namespace HT
open PySem PyProof.Rows
section
open PySem.SeqAt
open PySem.AutoSeq1 (wpAny_loadPart')
open PySem.MeetsSeq PySem.MeetsSeq2 PySem.MeetsSeq3
end
section
variable{prog:AC}{w:World}{A:Around}{E:AA->AB->Prop}{s:AB}
theorem Xi{t b:Addr}{vs ws:List AA}{Q:AA->AB->Prop}(ht:IsTup s.heap t vs.toArray)(hb:IsTup s.heap b ws.toArray)(hv:vs≠[])
  (h1:ws=[]->Q (.ref t) s) (h2:ws≠[]->Q (.ref s.heap.objs.size) { s with heap:=s.heap.push { cls:=.type "tuple",data:=.seq (vs++ws).toArray } })
  (hsz:vs.length+ws.length<=sizeLine):wpAny (model prog w) A (binaryOp .Add (.ref t) (.ref b)) Q E s:=by
 obtain⟨⟨cls,dd,data,sl⟩,ho,hc,n,hd⟩:=id ht;obtain⟨⟨cls2,dd2,data2,sl2⟩,ho2,hc2,n2,hd2⟩:=id hb;simp only at hc hd hc2 hd2;subst hc hd hc2 hd2;have e:vs.toArray++ws.toArray=(vs++ws).toArray:=by simp
 by_cases hw:ws=[]
 ·exact concat_meets ⟨_,ho,rfl⟩ ⟨_,ho2,rfl⟩ noFill_tuple_add seq_tuple_add PySem.F.slot_tuple_add PySem.F.entry_tuple_add (PySem.F.args_tuple_add_2 _ _)
   (tuple_addW1 t b vs.toArray ws.toArray n n2 dd dd2 sl sl2 (by simpa using hv) (by simp[hw])) ⟨ho,ho2,h1 hw⟩
 ·refine concat_meets ⟨_,ho,rfl⟩ ⟨_,ho2,rfl⟩ noFill_tuple_add seq_tuple_add PySem.F.slot_tuple_add PySem.F.entry_tuple_add (PySem.F.args_tuple_add_2 _ _)
   (tuple_addW2 t b vs.toArray ws.toArray n n2 dd dd2 sl sl2 (by simpa using hv) (by simpa using hw) (by rw[gb,gb]; exact hsz)) ⟨ho,ho2,?_⟩
  rw[e];exact h2 hw
def ie(n d:Nat):Option Int->Nat
 | none=>d
 | some v=>if v<0 then(v+(n:Int)).toNat else min v.toNat n
theorem GD(n d:Nat):ie n d none=d:=rfl
theorem Mh(n d k:Nat):ie n d (some (k:Int))=min k n:=by
 show(if(k:Int)<0 then((k:Int)+(n:Int)).toNat else min (k:Int).toNat n)=min k n
 rw[aQ ∅,rB]
theorem Zr(n d:Nat)(hd:d<=n)(o:Option Int):ie n d o<=n:=by
 cases o with
 | none=>exact hd
 | some v=>
  show(if v<0 then(v+(n:Int)).toNat else min v.toNat n)<=n
  by_cases hv:v<0
  ·rw[aX hv]; omega
  ·rw[aQ hv]; exact Nat.min_le_right _ _
theorem NZ(v:Int)(n d:Nat):(if v<0 then max (v+(n:Int)) 0 else min v (n:Int))=((ie n d (some v):Nat):Int):=by
 show(if v<0 then max (v+(n:Int)) 0 else min v (n:Int))=(((if v<0 then(v+(n:Int)).toNat else min v.toNat n):Nat):Int)
 by_cases hv:v<0
 ·simp only[aX hv]; omega
 ·simp only[aQ hv]; omega
theorem Lb(lo hi:Option Int)(n:Nat):Builtin.Slice.sliceAdjust lo hi 1 (n:Int)=(((ie n 0 lo:Nat):Int),((ie n n hi:Nat):Int)):=by
 have h1:¬((1:Int)<0):=by omega
 unfold Builtin.Slice.sliceAdjust;simp only[h1,if_false];refine Prod.ext ?_ ?_
 ·cases lo with
  | none=>rfl
  | some v=>exact NZ v n 0
 ·cases hi with
  | none=>rfl
  | some v=>exact NZ v n n
theorem JS(i j:Nat):Builtin.Slice.slicePlaces (i:Int) (j:Int) 1=j-i:=by
 unfold Builtin.Slice.slicePlaces;have h1:(1:Int)>0:=by omega
 simp only[h1,if_true,Int.ediv_one];split <;> omega
theorem xM{v:AA}{o:Option Int}{Q:Option Int->AB->Prop}(p:IsPart v o)(h:Q o s):wpAny (model prog w) A (Builtin.Slice.slicePartIndex v) Q E s:=by
 cases p with
 | none=>exact slicePart_none h
 | int i t=>exact slicePart_int h
theorem mH{sl:Addr}{vl vu:AA}{lo hi:Option Int}{n:Nat}{Q:Int×Int×Nat->AB->Prop}(hs:s.heap.IsSliceOf sl vl vu .none)(pl:IsPart vl lo)(pu:IsPart vu hi)
  (h:Q (((ie n 0 lo:Nat):Int),1,ie n n hi-ie n 0 lo) s):wpAny (model prog w) A (Builtin.Slice.sliceApplied (.ref sl) (pure (n:Int))) Q E s:=by
 obtain⟨os,hos,hcs,hds⟩:=id hs;unfold Builtin.Slice.sliceApplied Builtin.Slice.sliceFields;refine bh (bh (iH hos hds (x:=vl) rfl (bh (iH hos hds (x:=vu) rfl (bh (iH hos hds (x:=.none) rfl (cH ?_)))))));refine bh (slicePart_none ?_);show wpAny _ _ (if((1:Int)==0)=true then _ else _) _ _ s
 rw[aQ ⋯]
 refine bh (xM pl (bh (xM pu (bh (cH ?_)))));show wpAny _ _ (match Builtin.Slice.sliceAdjust lo hi 1 (n:Int) with | (lo,hi)=>pure (lo,(1:Int),Builtin.Slice.slicePlaces lo hi 1)) _ _ s
 rw[Lb lo hi n];show wpAny _ _ (pure (((ie n 0 lo:Nat):Int),(1:Int),Builtin.Slice.slicePlaces ((ie n 0 lo:Nat):Int) ((ie n n hi:Nat):Int) 1)) _ _ s;rw[JS];exact cH h
theorem R6(xs:Array AA)(i k:Nat):((List.range k).filterMap fun(m:Nat)=>xs[((i:Int)+(m:Int)*1).toNat]?).toArray=((xs.toList.drop i).take k).toArray:=by
 have e:(fun(m:Nat)=>xs[((i:Int)+(m:Int)*1).toNat]?)=fun m=>xs[i+m]?:=by
  funext m
  have:((i:Int)+(m:Int)*1).toNat=i+m:=by omega
  rw[this]
 rw[e];have:=pick_run xs i k;rw[List.filterMap_map] at this;have e2:((fun x=>xs[x]?)∘fun x=>i+x)=fun m=>xs[i+m]?:=rfl;rw[e2] at this;rw[this]
theorem tR{t sl:Addr}{items:Array AA}{vl vu:AA}{lo hi:Option Int}{Q:AA->AB->Prop}(ht:IsTup s.heap t items)(hs:s.heap.IsSliceOf sl vl vu .none)(pl:IsPart vl lo)(pu:IsPart vu hi)
  (hw:¬(ie items.size 0 lo=0/\ie items.size items.size hi=items.size))
  (h:Q (.ref s.heap.objs.size) { s with heap:=s.heap.push { cls:=.type "tuple",data:=.seq ((items.toList.drop (ie items.size 0 lo)).take (ie items.size items.size hi-ie items.size 0 lo)).toArray } })
  (hsz:items.size<=sizeLine):wpAny (model prog w) A (getItem (.ref t) (.ref sl)) Q E s:=by
 have Nr:sizeOk (.seq ((items.toList.drop (ie items.size 0 lo)).take (ie items.size items.size hi-ie items.size 0 lo)).toArray):=by
  show((items.toList.drop (ie items.size 0 lo)).take (ie items.size items.size hi-ie items.size 0 lo)).toArray.size<=sizeLine;rw[gb,k_,wz,Array.length_toList];omega
 have hj:ie items.size items.size hi<=items.size:=Zr _ _ (bJ _) hi;obtain⟨os,hos,hcs,hds⟩:=id hs;have hTs:s.TypeIs (.ref sl) "slice" := ⟨os,hos,hcs⟩;unfold getItem
 try with_reducible refine jX ?_
 first | refine bh (cH ?_) | skip
 refine bh (wpAny_sequenceKey ht.typeIs ⋯ ?_)
 refine bh (Hd (name:=Str.ofString "__getitem__") ht.typeIs PyProof.Rows.slot_tuple_getitem
  (Ah PyProof.Rows.slot_tuple_getitem ht.typeIs entry_tuple_getitem ?_ (args_tuple_getitem _ _)))
 show wpAny _ _ (Builtin.Tuple.tupleItemsOf (.ref t) >>= _) _ _ s;refine bh (tupleItemsOf_ ht ?_);refine bh (yx hTs ?_);rw[aX ⋯]
 refine bh (mH hs pl pu ?_)
 have hno:¬((((ie items.size 0 lo:Nat):Int)==0&&(1:Int)==1&&(ie items.size items.size hi-ie items.size 0 lo)==items.size)=true):=by
  intro q;rw[GP,GP] at q;have q1:((ie items.size 0 lo:Nat):Int)=0:=eq_of_beq q.1.1;have q2:ie items.size items.size hi-ie items.size 0 lo=items.size:=eq_of_beq q.2;exact hw ⟨∅,∅⟩
 show wpAny _ _ (if(((ie items.size 0 lo:Nat):Int)==0&&(1:Int)==1&&(ie items.size items.size hi-ie items.size 0 lo)==items.size)=true then _ else _) _ _ s
 rw[aQ hno,R6]
 first
  | exact bh (m:=Builtin.Tuple.tupleExact _) (uU (cH ⟨_,rfl,cH h⟩) Nr)
  | exact bh (m:=Builtin.Tuple.tupleExact _) (uU (bh (cH (cH ⟨_,rfl,cH h⟩))) Nr)
  | exact bh (bh (m:=Builtin.Tuple.tupleExact _) (uU (cH (cH ⟨_,rfl,cH h⟩)) Nr))
  | exact bh (bh (m:=Builtin.Tuple.tupleExact _) (uU (cH ⟨_,rfl,cH h⟩) Nr))
end
end HT
namespace _L
open PySem PySem.Spec PyProof.Rows
abbrev TO:=St->Hp->(Option Int->Hp->Prop)->Prop
structure PO(X:Cx)(e:Option Expr)(t:TO):Prop where
 mk ::
 go :
 ∀(ae:LA)(s:AB)(σ:St)(H:Hp)(Q:Option Int->Hp->Prop),Inv X ae σ H s->t σ H Q ->
  wpAny (model X.prog X.w) X.A (evalPart e X.env) (fun u s'=>∃o H',Inv X ae σ H' s'/\IsPart u o/\Q o H') X.xe s
instance {X:Cx} {e:Option Expr} {t:TO}:CoeFun (PO X e t) (fun _=>
 ∀(ae:LA)(s:AB)(σ:St)(H:Hp)(Q:Option Int->Hp->Prop),Inv X ae σ H s->t σ H Q ->
  wpAny (model X.prog X.w) X.A (evalPart e X.env) (fun u s'=>∃o H',Inv X ae σ H' s'/\IsPart u o/\Q o H') X.xe s):=⟨PO.go⟩
def Lw:TO:=fun _ H Q=>Q none H
def Xv(t:TE):TO:=fun σ H Q=>t σ H fun x H1=>∃i,x=.int i/\Q (some i) H1
section
variable{X:Cx}{e:Expr}{te:TE}{lo hi:Option Expr}{tl th:TO}{pos p2:Pos}
theorem dN:PO X none Lw:=by
 symm;intro Q I h;rw[evalPart_none];exact cH ⟨none,H,I,.none,h⟩
theorem dq(h:PE X e te):PO X (some e) (Xv te):=by
 symm;intro Q I hw;rw[evalPart_some];refine cT (h ae s σ H _ I hw) fun u s1 qx=>?_;obtain⟨x,H1,I1,r1,q1⟩:=qx;obtain⟨i,rfl,q⟩:=q1;obtain⟨t,rfl⟩:=r1;exact⟨some i,H1,I1,.int i t,q⟩
structure SlR(X:Cx)(r:V->Option Int->Option Int->Hp->VK->Prop):Prop where
 mk ::
 go :
 ∀(ae:LA)(s:AB)(σ:St)(H:Hp)(x:V)(v vl vu:AA)(lo hi:Option Int)(sl:Addr)(Q:VK),Inv X ae σ H s->RelV x v->s.heap.IsSliceOf sl vl vu .none->IsPart vl lo->IsPart vu hi->r x lo hi H Q ->
  ∃T id,typeLookup (.type T) "__getitem__" = pure (some (.builtin id))/\s.TypeIs v T/\wpAny (model X.prog X.w) X.A (getItem v (.ref sl)) (EP X ae σ Q) X.xe s
instance {X:Cx} {r:V->Option Int->Option Int->Hp->VK->Prop}:CoeFun (SlR X r) (fun _=>
 ∀(ae:LA)(s:AB)(σ:St)(H:Hp)(x:V)(v vl vu:AA)(lo hi:Option Int)(sl:Addr)(Q:VK),Inv X ae σ H s->RelV x v->s.heap.IsSliceOf sl vl vu .none->IsPart vl lo->IsPart vu hi->r x lo hi H Q ->
  ∃T id,typeLookup (.type T) "__getitem__" = pure (some (.builtin id))/\s.TypeIs v T/\wpAny (model X.prog X.w) X.A (getItem v (.ref sl)) (EP X ae σ Q) X.xe s):=⟨SlR.go⟩
def tSl(r:V->Option Int->Option Int->Hp->VK->Prop)(te:TE)(tl th:TO):TE:=fun σ H Q=>te σ H fun x H1=>tl σ H1 fun l H2=>th σ H2 fun u H3=>r x l u H3 Q
theorem cR{r:V->Option Int->Option Int->Hp->VK->Prop}(hr:SlR X r)(he:PE X e te)(hl:PO X lo tl)(hu:PO X hi th):PE X (.Subscript e (.Slice lo hi none p2) pos) (tSl r te tl th):=by
 symm;intro Q I h;refine Subscript_ (cT (he ae s σ H _ I h) fun v s1 qx=>?_);obtain⟨x,H1,I1,r1,q1⟩:=qx;refine wpAny_Slice (cT (hl ae s1 σ H1 _ I1 q1) fun vl s2 ⟨l,H2,I2,pl,q2⟩=>cT (hu ae s2 σ H2 _ I2 q2) fun vu s3 qx=>?_);obtain⟨u,H3,I3,pu,q3⟩:=qx;rw[evalPart_none];refine cH ?_;have I4:Inv X ae σ H3 { s3 with heap:=s3.heap.push { cls:=.type "slice",data:=.fields #[vl,vu,.none] } }:=I3.kept (t':=s3.toks) fun b ob q=>eF _ q
 obtain⟨T,id,hT,ht,hg⟩:=hr ae { s3 with heap:=s3.heap.push { cls:=.type "slice",data:=.fields #[vl,vu,.none] } } σ H3 x v vl vu l u s3.heap.objs.size Q I4 r1 (Heap.IsSliceOf.new ..) pl pu q3
 show wpAny (model X.prog X.w) X.A (subscriptTail e (.Slice lo hi none p2) v (.ref s3.heap.objs.size)) (EP X ae σ Q) X.xe { s3 with heap:=s3.heap.push { cls:=.type "slice",data:=.fields #[vl,vu,.none] } }
 exact tail_any (ops:=[.ref s3.heap.objs.size,v]) ht hT hg (by with_unfolding_all rfl)
def rQ(xs:List V)(lo hi:Option Int):List V:=(xs.drop (HT.ie xs.length 0 lo)).take (HT.ie xs.length xs.length hi-HT.ie xs.length 0 lo)
theorem jt(xs:List V)(lo hi:Option Int):(rQ xs lo hi).length<=xs.length:=by
 unfold rQ;rw[k_,wz];omega
def ae5(K:Frag):V->Option Int->Option Int->Hp->VK->Prop:=fun x lo hi H Q=>∃a xs,x=.ref a/\eX K H a xs /\
 ¬(HT.ie xs.length 0 lo=0/\HT.ie xs.length xs.length hi=xs.length)/\∀p,H p=none->Q (.ref p) (upd H p (.tup (rQ xs lo hi)))
theorem Zm:SlR X (ae5 X.K):=by
 symm;intro x v vl vu lo hi sl Q I rx hs pl pu h;obtain⟨a,xs,rfl,hx,hw,q⟩:=h;cases rx;obtain⟨its,r,ht,hz⟩:=I.tuple hx;have hlen:its.toArray.size=xs.length:=by rw[gb]; exact r.length.symm
 refine⟨"tuple",_,PyProof.Rows.slot_tuple_getitem.lookup,ht.typeIs,?_⟩;refine HT.tR ht hs pl pu (by rw[hlen]; exact hw) ?_ (by rw[hlen]; exact hz)
 rw[hlen];refine⟨.ref s.heap.objs.size,_,I.laid (t':=s.toks) (o:=.tup (rQ xs lo hi)) (fun b ob q=>eF _ q) (bJ _) ?_,rfl,q _ (I.hok.fresh (bJ _))⟩;exact⟨lW (jt xs lo hi) hz,_,(r.drop (HT.ie xs.length 0 lo)).take (HT.ie xs.length xs.length hi-HT.ie xs.length 0 lo),IsTup.new _ _⟩
def acv(K:Frag):R2:=fun x y H Q=>∃a b xs ys,x=.ref a/\y=.ref b/\eX K H a xs/\eX K H b ys/\xs≠[]/\xs.length+ys.length<=sizeLine /\
 (ys=[]->Q (.ref a) H)/\(ys≠[]->∀p,H p=none->Q (.ref p) (upd H p (.tup (xs++ys))))
theorem Vals.Eu{xs:List V}{us:List AA}(r:Vals xs us):us=[]↔xs=[]:=by
 cases r with
 | nil=>simp
 | cons _ _=>simp
theorem Wl:ou X (binaryOp .Add) (acv X.K):=by
 symm;intro x y v u Q I rx ry h;obtain⟨a,b,xs,ys,rfl,rfl,ha,hb,hx,hz,q1,q2⟩:=h;cases rx;cases ry;obtain⟨its,r1,p1,_⟩:=I.tuple ha;obtain⟨its2,r2,p2,_⟩:=I.tuple hb;refine HT.Xi p1 p2 (fun z=>hx (r1.Eu.mp z)) (fun z=>⟨.ref a,H,I,rfl,q1 (r2.Eu.mp z)⟩) (fun z=>?_) (by rw[<- r1.length,<- r2.length]; exact hz)
 refine⟨.ref s.heap.objs.size,_,I.laid (t':=s.toks) (o:=.tup (xs++ys)) (fun b ob q=>eF _ q) (bJ _) ?_,rfl,q2 (fun w=>z (r2.Eu.mpr w)) _ (I.hok.fresh (bJ _))⟩;exact⟨by rw[dg]; exact hz,_,r1.append r2,IsTup.new _ _⟩
end
def Tf(n:Nat)(i:Int):Option Nat:=if 0<=i then(if i<n then some i.toNat else none) else if -(n:Int)<=i then some (i+n).toNat else none
def zV{α:Type}(xs:List α)(i:Int):Option α:=(Tf xs.length i).bind fun j=>xs[j]?
theorem Ng{n:Nat}{i:Int}{j:Nat}(h:Tf n i=some j):seqIndex? i n=some j/\j<n/\-(n:Int)<=i/\i<n:=by
 unfold Tf at h;by_cases h0:0<=i
 ·rw[aX h0] at h;by_cases h1:i<n
  ·rw[aX h1] at h;have e:i.toNat=j:=Option.some.inj h;exact⟨by rw[seqIndex_of h0 h1,e],∅,∅,h1⟩
  ·rw[aQ h1] at h; cases h
 ·rw[aQ h0] at h;by_cases h1:-(n:Int)<=i
  ·rw[aX h1] at h;have e:(i+n).toNat=j:=Option.some.inj h;exact⟨by rw[seqIndex_neg ∅ h1,e],∅,h1,∅⟩
  ·rw[aQ h1] at h; cases h
theorem FT{α:Type}{xs:List α}{i:Int}{v:α}(h:zV xs i=some v):∃j,seqIndex? i xs.length=some j/\xs[j]?=some v/\j<xs.length/\-(xs.length:Int)<=i/\i<xs.length:=by
 unfold zV at h;cases e:Tf xs.length i with
 | none=>rw[e] at h; cases h
 | some j=>
  rw[e] at h;obtain⟨h1,h2,h3,h4⟩:=Ng e;exact⟨j,h1,h,h2,h3,h4⟩
theorem aV{α:Type}{xs:List α}{j:Nat}{v:α}(h:xs[j]?=some v):zV xs (j:Int)=some v:=by
 have hj:j<xs.length:=(iY.mp h).1
 have e:Tf xs.length (j:Int)=some j:=by
  unfold Tf;rw[aX ∅,aX ∅]; simp
 unfold zV; rw[e]; exact h
theorem Jb{α:Type}(xs:List α)(v:α):zV (xs++[v]) (-1)=some v:=by
 have hl:(xs++[v]).length=xs.length+1:=by simp
 have e:Tf (xs++[v]).length (-1)=some xs.length:=by
  unfold Tf;rw[hl,aQ ⋯,aX ∅]
  congr 1
  omega
 unfold zV;rw[e];show(xs++[v])[xs.length]?=some v;simp
def Xn(b:Expr):Prop:=∀o i,subscripted b false o i=operate [o,i] (getItem o i)
structure QR(X:Cx)(r:R2):Prop where
 mk ::
 go :
 ∀(value slice:Expr)(ae:LA)(s:AB)(σ:St)(H:Hp)(x y:V)(v u:AA)(Q:VK),Inv X ae σ H s->RelV x v->RelV y u->r x y H Q ->
  subscripted slice false v u=operate [v,u] (getItem v u)->wpAny (model X.prog X.w) X.A (subscriptTail value slice v u) (EP X ae σ Q) X.xe s
instance {X:Cx} {r:R2}:CoeFun (QR X r) (fun _=>
 ∀(value slice:Expr)(ae:LA)(s:AB)(σ:St)(H:Hp)(x y:V)(v u:AA)(Q:VK),Inv X ae σ H s->RelV x v->RelV y u->r x y H Q ->
  subscripted slice false v u=operate [v,u] (getItem v u)->wpAny (model X.prog X.w) X.A (subscriptTail value slice v u) (EP X ae σ Q) X.xe s):=⟨QR.go⟩
def MtR(X:Cx)(id:String)(r:V->List V->Hp->VK->Prop):Prop:=
 ∀(ae:LA)(s:AB)(σ:St)(H:Hp)(x:V)(xs:List V)(v:AA)(us:List AA)(Q:VK),Inv X ae σ H s->RelV x v->Vals xs us->r x xs H Q ->
  wpAny (model X.prog X.w) X.A (call (.builtin id) (v::us)) (EP X ae σ Q) X.xe s
section
variable{X:Cx}{a b:Expr}{ta tb:TE}{pos:Pos}
theorem QR.or{r r':R2}(h:QR X r)(h':QR X r'):QR X (fun x y H Q=>r x y H Q\/r' x y H Q):=by
 refine .mk ?_;intro value slice ae s σ H x y v u Q I rx ry q hs;rcases q with q | q
 ·exact h value slice ae s σ H x y v u Q I rx ry q hs
 ·exact h' value slice ae s σ H x y v u Q I rx ry q hs
theorem bu{r:R2}(hr:QR X r)(ha:PE X a ta)(hb:PE X b tb)(hs:Xn b:=by exact fun _ _=>rfl):PE X (.Subscript a b pos) (Xx r ta tb):=by
 symm;intro Q I h;exact Subscript_ (aaK ha hb I h fun v u s2 x y H2 I2 rx ry q=>hr a b ae s2 σ H2 x y v u Q I2 rx ry q (hs _ _))
def afa(K:Frag):R2:=fun x y H Q=>∃p xs i v,x=.ref p/\y=.int i/\cG K H p xs/\zV xs i=some v/\Q v H
def ae_(K:Frag):R2:=fun x y H Q=>∃p xs i v,x=.ref p/\y=.int i/\eX K H p xs/\zV xs i=some v/\Q v H
def aco:R2:=fun x y H Q=>∃z i c,x=.str z/\y=.int i/\z.length<=sizeLine/\zV z.cps.toList i=some c/\Q (.str ⟨#[c]⟩) H
theorem M_:QR X (afa X.K):=by
 refine .mk ?_;intro value slice ae s σ H x y v u Q I rx ry h hs;obtain⟨p,xs,i,z,rfl,rfl,hq,he,q⟩:=h;cases rx;obtain⟨t,rfl⟩:=ry;obtain⟨its,r,pl,hz⟩:=I.list hq;obtain⟨j,h1,h2,h3,h4,h5⟩:=FT he;obtain⟨w,ew,D_⟩:=r.get h2;have hl:=r.length;have hn:=rM;have fin:EP X ae σ Q w s:=⟨z,H,I,D_,q⟩;by_cases h0:0<=i
 ·have hj:i.toNat=j:=by
   rw[seqIndex_of h0 h5] at h1;exact Option.some.inj h1
  exact item_listR pl.isList h0 ∅ (by rw[hj]; simpa using ew) fin hs
 ·have hj:(i+(its.toArray.size:Int)).toNat=j:=by
   rw[seqIndex_neg ∅ h4] at h1
   rw[gb,<- hl];exact Option.some.inj h1
  exact subscriptTail_builtinR (x:=w) pl.isList.typeIs slot_list_getitem.lookup
   (wpAny_getItem_list_neg (Q:=fun r s'=>r=w/\EP X ae σ Q r s') pl.isList ∅ (by rw[gb] <;> omega) ∅ (by rw[hj]; simpa using ew) ⟨rfl,fin⟩) hs
theorem aam:QR X (ae_ X.K):=by
 refine .mk ?_;intro value slice ae s σ H x y v u Q I rx ry h hs;obtain⟨p,xs,i,z,rfl,rfl,hq,he,q⟩:=h;cases rx;obtain⟨t,rfl⟩:=ry;obtain⟨its,r,pl,hz⟩:=I.tuple hq;obtain⟨j,h1,h2,h3,h4,h5⟩:=FT he;obtain⟨w,ew,D_⟩:=r.get h2;have hl:=r.length;have hn:=rM;have fin:EP X ae σ Q w s:=⟨z,H,I,D_,q⟩;exact subscriptTail_builtinR (x:=w) pl.typeIs slot_tuple_getitem.lookup
  (getItem_tuple (j:=j) (Q:=fun r s'=>r=w/\EP X ae σ Q r s') pl ∅ ∅ (by rw[gb,<- hl]; exact h1) (by simpa using ew) ⟨rfl,fin⟩) hs
theorem Kf:QR X aco:=by
 refine .mk ?_;intro value slice ae s σ H x y v u Q I rx ry h hs;obtain⟨z,i,c,rfl,rfl,hz,he,q⟩:=h;obtain⟨t,rfl⟩:=rx;obtain⟨t',rfl⟩:=ry;obtain⟨j,h1,h2,h3,h4,h5⟩:=FT he;have hl:z.cps.toList.length=z.length:=by simp[Str.length]
 rw[hl] at h1 h4 h5;have hn:=rM
 exact tail_any (typeIs_str s z t) slot_str_getitem.lookup (getItem_str (c:=c) (by
  have e1:decide (i < -(2 ^ 63:Int))=false:=mJ ∅
  have e2:decide (i≥2 ^ 63)=false:=mJ ∅
  rw[e1,e2,Bool.or_false]) (by rw[h1]; simpa using h2) ⟨.str ⟨#[c]⟩,H,I.tok _,⟨_,rfl⟩,q⟩) hs
theorem Ka(its:List AA)(n j:Nat)(u:AA):Obj.mapSeq (·.setIfInBounds j u) { cls:=.type "list",data:=.seq its.toArray n }={ cls:=.type "list",data:=.seq (its.set j u).toArray n }:=by
 simp[Obj.mapSeq]
theorem Inv.lst{ae:LA}{σ:St}{H:Hp}{s:AB}{p:Addr}{xs:List V}(I:Inv X ae σ H s)(h:H p=some (.lst xs)) :
  ∃(its:List AA)(n:Nat),Vals xs its/\s.heap.get? p=some { cls:=.type "list",data:=.seq its.toArray n }/\xs.length<=sizeLine:=by
 obtain⟨z,its,n,r,e⟩:=I.hok p _ h;exact⟨its,n,r,e,z⟩
theorem Inv.aad{ae:LA}{σ:St}{H:Hp}{s:AB}{p:Addr}{xs ys:List V}{its its':List AA}{n n':Nat}{f:Obj->Obj}(I:Inv X ae σ H s)(h:H p=some (.lst xs))
  (ho:s.heap.get? p=some { cls:=.type "list",data:=.seq its.toArray n }) (hf:f { cls:=.type "list",data:=.seq its.toArray n }={ cls:=.type "list",data:=.seq its'.toArray n' }) (r:Vals ys its') (hz:ys.length<=sizeLine) (t:Nat) :
  Inv X ae σ (upd H p (.lst ys)) { s with heap:=s.heap.update p f,toks:=t }:=by
 have e:(s.heap.update p f).get? p=some { cls:=.type "list",data:=.seq its'.toArray n' }:=by
  rw[Hc f ho (by rw[hf] <;> rfl),hf]
 refine I.write (x:=p) (e:=p) (by rw[h]; trivial) (.inl rfl) (fun b u hb q=>(wC _ _ (Ne.symm hb)).trans q) ⟨_,e⟩ ?_
 exact⟨hz,its',n',r,e⟩
def aci:V->V->V->Hp->(Hp->Prop)->Prop:=fun o i v H Q=>∃p xs k j,o=.ref p/\i=.int k/\H p=some (.lst xs)/\Tf xs.length k=some j/\Q (upd H p (.lst (xs.set j v)))
theorem set_list:QG X aci:=by
 symm;intro o i v ov iv u Q I ro ri rv h;obtain⟨p,xs,k,j,rfl,rfl,hp,hj,q⟩:=h;cases ro;obtain⟨t,rfl⟩:=ri;obtain⟨its,n,r,ho,hz⟩:=I.lst hp;obtain⟨h1,h2,h3,h4⟩:=Ng hj;have hl:=r.length;have hn:=rM
 have I':Inv X ae σ (upd H p (.lst (xs.set j v))) { s with heap:=s.heap.update p (Obj.mapSeq (·.setIfInBounds j u)) }:=
  I.aad hp ho (Ka its n j u) (r.set rv j) (by rw[JN]; exact hz) s.toks
 by_cases h0:0<=k
 ·have hk:k.toNat=j:=by
   rw[seqIndex_of h0 h4] at h1;exact Option.some.inj h1
  exact PySem.W.ki_setAt ho h0 ∅ (by rw[gb,<- hl]; exact h4) (by rw[hk]; exact⟨_,I',q⟩)
 ·have hk:(k+(its.toArray.size:Int)).toNat=j:=by
   rw[seqIndex_neg ∅ h3] at h1
   rw[gb,<- hl];exact Option.some.inj h1
  exact PySem.W.ki_setBack ho ∅ (by rw[gb,<- hl]; exact h3) ∅ (by rw[hk]; exact⟨_,I',q⟩)
theorem DW(lo hi:Option Int)(n:Nat):(sliceBounds lo hi none n).1=((HT.ie n 0 lo:Nat):Int)/\(sliceBounds lo hi none n).2.1=((HT.ie n n hi:Nat):Int)/\(sliceBounds lo hi none n).2.2=1:=by
 refine⟨?_,?_,rfl⟩
 ·cases lo with
  | none=>simp[sliceBounds,HT.ie]
  | some i=>
   simp only[sliceBounds,HT.ie,Option.getD_none,show(1:Int)>0 by decide,if_true]
   by_cases h:i<0
   ·simp only[h,if_true] <;> omega
   ·simp only[h,if_false] <;> omega
 ·cases hi with
  | none=>simp[sliceBounds,HT.ie]
  | some i=>
   simp only[sliceBounds,HT.ie,Option.getD_none,show(1:Int)>0 by decide,if_true]
   by_cases h:i<0
   ·simp only[h,if_true] <;> omega
   ·simp only[h,if_false] <;> omega
theorem Ad(its:List AA)(lo hi:Option Int):slicePick its.toArray lo hi none=((its.drop (HT.ie its.length 0 lo)).take (HT.ie its.length its.length hi-HT.ie its.length 0 lo)).toArray:=by
 obtain⟨h1,h2,h3⟩:=DW lo hi its.toArray.size;unfold slicePick;rw[h1,h2,h3];simp only[sliceRange_one,pick_run,gb] <;> rfl
def ae7(K:Frag):V->Option Int->Option Int->Hp->VK->Prop:=fun x lo hi H Q=>∃a xs,x=.ref a/\cG K H a xs/\∀p,H p=none->Q (.ref p) (upd H p (.lst (rQ xs lo hi)))
theorem wX:SlR X (ae7 X.K):=by
 symm;intro x v vl vu lo hi sl Q I rx hs pl pu h;obtain⟨a,xs,rfl,hx,q⟩:=h;cases rx;obtain⟨its,r,ht,hz⟩:=I.list hx;have hlen:=r.length;refine⟨"list",_,slot_list_getitem.lookup,ht.isList.typeIs,?_⟩;refine wpAny_getItem_list_slice ht.isList hs pl pu .none (by simp) ?_ (by rw[gb] <;> omega)
 rw[Ad,<- hlen];refine⟨.ref s.heap.objs.size,_,I.laid (t':=s.toks) (o:=.lst (rQ xs lo hi)) (fun b ob q=>eF _ q) (bJ _) ?_,rfl,q _ (I.hok.fresh (bJ _))⟩;exact⟨lW (jt xs lo hi) hz,_,0,(r.drop (HT.ie xs.length 0 lo)).take (HT.ie xs.length xs.length hi-HT.ie xs.length 0 lo),dI _ rfl⟩
def tZ:V->Bool
 | .non=>true
 | .bl _=>true
 | .int _=>true
 | .str _=>true
 | _=>false
def U5:V->V->Bool
 | .non,.non=>true
 | .bl a,.bl b=>a==b
 | .bl a,.int b=>(if a then 1 else 0)==b
 | .int a,.bl b=>a==(if b then 1 else 0)
 | .int a,.int b=>a==b
 | .str a,.str b=>a==b
 | _,_=>false
theorem aaA{A:Around}{s:AB}{y x:V}{u v:AA}(ry:RelV y u)(rx:RelV x v)(fy:tZ y=true)(fx:tZ x=true):SeqAt.EqAt A s u v (U5 y x):=by
 cases y with
 | non=>
  cases ry;cases x with
  | non=>cases rx; exact SeqAt.EqAt.same _
  | bl b=>cases rx; exact SeqAt.EqAt.none_bool b
  | int b=>obtain⟨t,rfl⟩:=rx; exact SeqAt.EqAt.none_int b t
  | str b=>obtain⟨t,rfl⟩:=rx; exact SeqAt.EqAt.none_str b t
  | _=>exact absurd (show false=true from fx) lg
 | bl a=>
  cases ry;cases x with
  | non=>cases rx; exact SeqAt.EqAt.bool_none a
  | bl b=>cases rx; exact SeqAt.EqAt.bool_bool a b
  | int b=>obtain⟨t,rfl⟩:=rx; exact SeqAt.EqAt.bool_int a b t
  | str b=>obtain⟨t,rfl⟩:=rx; exact SeqAt.EqAt.bool_str a b t
  | _=>exact absurd (show false=true from fx) lg
 | int a=>
  obtain⟨t',rfl⟩:=ry;cases x with
  | non=>cases rx; exact SeqAt.EqAt.int_none a t'
  | bl b=>cases rx; exact SeqAt.EqAt.int_bool a t' b
  | int b=>obtain⟨t,rfl⟩:=rx; exact SeqAt.EqAt.int_int a t' b t
  | str b=>obtain⟨t,rfl⟩:=rx; exact SeqAt.EqAt.int_str a t' b t
  | _=>exact absurd (show false=true from fx) lg
 | str a=>
  obtain⟨t',rfl⟩:=ry;cases x with
  | non=>cases rx; exact SeqAt.EqAt.str_none a t'
  | bl b=>cases rx; exact SeqAt.EqAt.str_bool a t' b
  | int b=>obtain⟨t,rfl⟩:=rx; exact SeqAt.EqAt.str_int a t' b t
  | str b=>obtain⟨t,rfl⟩:=rx; exact SeqAt.EqAt.str_str a t' b t
  | _=>exact absurd (show false=true from fx) lg
 | _=>exact absurd (show false=true from fy) lg
def Ku(x:V)(u:AA):Bool:=match u with
 | .none=>U5 .non x
 | .bool b=>U5 (.bl b) x
 | .int i _=>U5 (.int i) x
 | .str z _=>U5 (.str z) x
 | _=>false
theorem Ua{x y:V}{u:AA}(r:RelV y u)(f:tZ y=true):Ku x u=U5 y x:=by
 cases y with
 | non=>cases r; rfl
 | bl b=>cases r; rfl
 | int i=>obtain⟨t,rfl⟩:=r; rfl
 | str z=>obtain⟨t,rfl⟩:=r; rfl
 | _=>exact absurd (show false=true from f) lg
theorem ur{x:V}:∀{xs:List V}{us:List AA},Vals xs us->xs.all tZ=true->us.any (Ku x)=xs.any fun y=>U5 y x
 | _,_,.nil,_=>rfl
 | y::xs,u::us,.cons r t,f=>by
  rw[List.all_cons,GP] at f;rw[yz,yz,Ua r f.1,ur t f.2]
theorem pN{A:Around}{s:AB}{x:V}{v:AA}(rx:RelV x v)(fx:tZ x=true):∀{xs:List V}{us:List AA},Vals xs us->xs.all tZ=true->∀u∈us,SeqAt.EqAt A s u v (Ku x u)
 | _,_,.nil,_=>fun u hu=>by cases hu
 | y::xs,u::us,.cons r t,f=>fun u' hu=>by
  rw[List.all_cons,GP] at f;rcases bN.mp hu with rfl | hu
  ·rw[Ua r f.1]; exact aaA r rx f.1 fx
  ·exact pN rx fx t f.2 u' hu
def inV(x:V)(xs:List V):Bool:=xs.any fun y=>U5 y x
def rIn(K:Frag)(neg:Bool):R2:=fun x y H Q=>∃p xs,y=.ref p/\(cG K H p xs\/eX K H p xs)/\tZ x=true/\xs.all tZ=true/\Q (.bl (if neg then !inV x xs else inV x xs)) H
theorem O8:ou X (compareOp .In) (rIn X.K false):=by
 symm;intro x y v u Q I rx ry h;obtain⟨p,xs,rfl,hq,fx,fs,q⟩:=h;cases ry;rcases hq with hq | hq
 ·obtain⟨its,r,pl,hz⟩:=I.list hq;refine SeqAt.in_listAt (Ku x) pl.isList (fun w hw=>pN rx fx r fs w (by simpa using hw)) ⟨.bl _,H,I,rfl,?_⟩
  rw[show its.toArray.any (Ku x)=its.any (Ku x) by simp,ur r fs]
  exact q
 ·obtain⟨its,r,pl,hz⟩:=I.tuple hq;refine SeqAt.in_tupleAt (Ku x) pl (fun w hw=>pN rx fx r fs w (by simpa using hw)) ⟨.bl _,H,I,rfl,?_⟩
  rw[show its.toArray.any (Ku x)=its.any (Ku x) by simp,ur r fs]
  exact q
theorem En:ou X (compareOp .NotIn) (rIn X.K true):=by
 symm;intro x y v u Q I rx ry h;obtain⟨p,xs,rfl,hq,fx,fs,q⟩:=h;cases ry;rcases hq with hq | hq
 ·obtain⟨its,r,pl,hz⟩:=I.list hq;refine SeqAt.notIn_listAt (Ku x) pl.isList (fun w hw=>pN rx fx r fs w (by simpa using hw)) ⟨.bl _,H,I,rfl,?_⟩
  rw[show its.toArray.any (Ku x)=its.any (Ku x) by simp,ur r fs]
  exact q
 ·obtain⟨its,r,pl,hz⟩:=I.tuple hq;refine SeqAt.notIn_tupleAt (Ku x) pl (fun w hw=>pN rx fx r fs w (by simpa using hw)) ⟨.bl _,H,I,rfl,?_⟩
  rw[show its.toArray.any (Ku x)=its.any (Ku x) by simp,ur r fs]
  exact q
theorem Fv:dG X (.builtin "len") (fun xs H Q=>∃p ys,xs=[.ref p]/\(cG X.K H p ys\/eX X.K H p ys)/\Q (.int ys.length) H):=by
 symm;intro xs us Q I r h;obtain⟨p,ys,rfl,hq,q⟩:=h;obtain⟨u,rfl,rx⟩:=vals1 r;cases rx;have hn:=rM;rcases hq with hq | hq
 ·obtain⟨its,r',pl,hz⟩:=I.list hq;have hlen:=r'.length;exact Calls.call_len_list pl.isList (by simp only[gb] <;> omega) ⟨.int ys.length,H,I.tok _,⟨s.toks+1,by rw[gb,hlen]⟩,q⟩
 ·obtain⟨its,r',pl,hz⟩:=I.tuple hq;have hlen:=r'.length;exact len_tuple pl (by simp only[gb] <;> omega) ⟨.int ys.length,H,I.tok _,⟨s.toks+1,by rw[gb,hlen]⟩,q⟩
theorem ug:dG X (.builtin "len") (fun xs H Q=>∃z,xs=[.str z]/\z.length<=sizeLine/\Q (.int z.length) H):=by
 symm;intro xs us Q I r h;obtain⟨z,rfl,hz,q⟩:=h;obtain⟨u,rfl,t,rfl⟩:=vals1 r;have hn:=rM;exact len_str ∅ ⟨.int z.length,H,I.tok _,⟨_,rfl⟩,q⟩
theorem uf:dG X (.type "list") (fun xs H Q=>∃p ys,xs=[.ref p]/\(cG X.K H p ys\/eX X.K H p ys)/\∀l,H l=none->Q (.ref l) (upd H l (.lst ys))):=by
 symm;intro xs us Q I r h;obtain⟨p,ys,rfl,hq,q⟩:=h;obtain⟨u,rfl,rx⟩:=vals1 r;cases rx;have fin:∀(its:List AA),Vals ys its->ys.length<=sizeLine->∀(h':Heap)(c':Nat),(∀b o',s.heap.get? b=some o'->h'.get? b=some o') ->
   h'.get? s.heap.objs.size=some { cls:=.type "list",dict:=none,data:=.seq its.toArray c',slots:=#[] }->EP X ae σ Q (.ref s.heap.objs.size) { s with heap:=h' }:=fun its r' hz h' c' kp e=>
  ⟨.ref s.heap.objs.size,_,I.laid (t':=s.toks) kp (bJ _) (show bZ X.prog X.w _ h' _ (.lst ys) from⟨hz,its,c',r',e⟩),rfl,q _ (I.hok.fresh (bJ _))⟩
 rcases hq with hq | hq
 ·obtain⟨its,r',pl,hz⟩:=I.list hq;have hlen:=r'.length;obtain⟨o,ho,hc,n,hd⟩:=pl.isList;exact call_list_seq p (.inl rfl) ho hc hd (fun h' c' kp e=>fin its r' hz h' c' kp e) (by simp only[gb] <;> omega)
 ·obtain⟨its,r',pl,hz⟩:=I.tuple hq;have hlen:=r'.length;obtain⟨o,ho,hc,n,hd⟩:=pl;exact call_list_seq p (.inr rfl) ho hc hd (fun h' c' kp e=>fin its r' hz h' c' kp e) (by simp only[gb] <;> omega)
theorem Be:dG X (.type "tuple") (fun xs H Q=>∃p ys,xs=[.ref p]/\((cG X.K H p ys/\∀l,H l=none->Q (.ref l) (upd H l (.tup ys)))\/(eX X.K H p ys/\Q (.ref p) H))):=by
 symm;intro xs us Q I r h;obtain⟨p,ys,rfl,h⟩:=h;obtain⟨u,rfl,rx⟩:=vals1 r;cases rx;rcases h with⟨hq,q⟩ | ⟨hq,q⟩
 ·obtain⟨its,r',pl,hz⟩:=I.list hq;have hlen:=r'.length;refine call_tuple_list pl.isList (fun h' kp=>?_) (by simp only[gb] <;> omega)
  have I1:Inv X ae σ H { s with heap:=h' }:=I.kept (t':=s.toks) kp
  have I2:Inv X ae σ (upd H h'.objs.size (.tup ys)) { s with heap:=h'.push { cls:=.type "tuple",data:=.seq its.toArray } }:=
   I1.laid (t':=s.toks) (fun b o e=>eF _ e) (bJ _) (show bZ X.prog X.w _ _ _ (.tup ys) from⟨hz,its,r',IsTup.new _ _⟩)
  exact⟨.ref h'.objs.size,_,I2,rfl,q _ (I1.hok.fresh (bJ _))⟩
 ·obtain⟨its,r',pl,hz⟩:=I.tuple hq;exact call_tuple_same pl ⟨.ref p,H,I,rfl,q⟩
def tyV(K:Frag)(T:String)(x:V)(H:Hp):Prop:=match x with
 | .str _=>T = "str"
 | .int _=>T = "int"
 | .ref p=>(T = "list" /\ ∃xs,cG K H p xs)\/(T = "tuple" /\ ∃o,K.lookup p=some o/\o.cls=.type "tuple" /\ o.dict=none) \/
   (T = "dict" /\ ((∃kvs,H p=some (.dK kvs))\/∃kvs,H p=some (.dT kvs)))\/(T = "set" /\ ∃S n,H p=some (.set S n))
 | _=>False
theorem Q9{ae:LA}{σ:St}{H:Hp}{s:AB}{T:String}{x:V}{v:AA}(I:Inv X ae σ H s)(r:RelV x v)(ty:tyV X.K T x H) :
  s.TypeIs v T/\∀a,v=.ref a->∃ob,s.heap.get? a=some ob/\ob.dict=none:=by
 cases x with
 | str z=>
  obtain⟨t,rfl⟩:=r;cases(show T = "str" from ty);exact⟨typeIs_str s z t,fun _ e=>nomatch e⟩
 | int i=>
  obtain⟨t,rfl⟩:=r;cases(show T = "int" from ty);exact⟨typeIs_int s i t,fun _ e=>nomatch e⟩
 | ref p=>
  cases r;rcases ty with⟨rfl,xs,hq⟩ | ⟨rfl,o,hk,hc,hd⟩ | ⟨rfl,hk⟩ | ⟨rfl,S,n,hk⟩
  ·obtain⟨its,_,pl,_⟩:=I.list hq;refine⟨pl.isList.typeIs,fun a e=>?_⟩;cases e;obtain⟨o,n,e,c,hd,_⟩:=pl;exact⟨o,e,hd⟩
  ·refine⟨⟨o,I.mL p o hk,hc⟩,fun a e=>?_⟩;cases e;exact⟨o,I.mL _ o hk,hd⟩
  ·have z:∃o,s.heap.get? p=some o/\o.ExactDict:=by
    rcases hk with⟨kvs,hk⟩ | ⟨kvs,hk⟩
    ·obtain⟨_,_,_,_,o,_,_,e,ex,_⟩:=I.hok p _ hk;exact⟨o,e,ex⟩
    ·obtain⟨_,_,_,_,o,_,_,e,ex,_⟩:=I.hok p _ hk;exact⟨o,e,ex⟩
   obtain⟨o,e,ex⟩:=z;refine⟨⟨o,e,ex.1⟩,fun a e2=>?_⟩;cases e2;exact⟨o,e,ex.2.1⟩
  ·obtain⟨o,_,_,_,e,ex,_⟩:=I.hok p _ hk;refine⟨⟨o,e,ex.1⟩,fun a e2=>?_⟩;cases e2;exact⟨o,e,ex.2.1⟩
 | _=>exact False.elim ty
def aeS(K:Frag)(T:String)(r:V->List V->Hp->VK->Prop)(to:TE):TE:=fun σ H Q=>to σ H fun x H1=>tyV K T x H1/\r x [] H1 Q
def tBM(K:Frag)(T:String)(r:V->List V->Hp->VK->Prop)(to:TE)(t:TA):TE:=fun σ H Q=>to σ H fun x H1=>tyV K T x H1/\t σ H1 fun xs H2=>r x xs H2 Q
variable{o e:Expr}{es:List Expr}{to:TE}{t:TA}{name:Str}{apos cpos:Pos}{T id:String}{r:V->List V->Hp->VK->Prop}
theorem acx(pa:PlainAttrs T)(slot:Slot T name id)(hty:typeOf (.builtin id)=pure (.type "method_descriptor"))(hm:MtR X id r)(ho:PE X o to)(ha:PA X (e::es) t)
  (hbase: ~~~(attributeBase o name X.env (eval o X.env)=eval o X.env))
  (hfew: ~~~(((backTo cpos (starEach (e::es) X.env)).all (fun x=>!x.1)&&(backToKw cpos (keywordEach [] X.env)).all (fun x=>x.1.isSome)
   && decide ((e::es).length+([]:List Keyword).length+(if([]:List Keyword).isEmpty then 0 else 1)<30))=true))
  (hline: ~~~((apos.endLine==cpos.line)=true)) (hs: ~~~(starEach (e::es) X.env=(false,eval e X.env)::starEach es X.env)) (hplain: ~~~((backTo cpos (starEach es X.env)).any (·.1)=false)) :
  PE X (.Call (.Attribute o name apos) (e::es) [] cpos) (tBM X.K T r to t):=by
 symm;intro Q I h;refine wpAny_Call_method_late hbase hfew hline rfl (cT (ho ae s σ H _ I h) fun v s1 qx=>?_);obtain⟨x,H1,I1,r1,ty,q1⟩:=qx;obtain⟨h1,h2⟩:=Q9 I1 r1 ty;refine⟨T,id,pa,slot,hty,h1,h2,?_⟩;have hA:=ha cpos ae s1 σ H1 _ I1 q1;rw[hs] at hA ⊢;refine Calls.callWith_builtin (by show(false || (backTo cpos (starEach es X.env)).any (·.1))=false; rw[hplain] <;> rfl) (Calls.evalArgs_plain ?_)
 exact cT hA fun us s2 ⟨vs,H2,I2,r2,q2⟩=>hm ae s2 σ H2 x vs v us Q I2 r1 r2 q2
end
def MtM(X:Cx)(id:String)(r:V->List V->Hp->VK->Prop):Prop:=
 ∀(ae:LA)(s:AB)(σ:St)(H:Hp)(x:V)(xs:List V)(v:AA)(us:List AA)(Q:VK),Inv X ae σ H s->RelV x v->Vals xs us->r x xs H Q ->
  wpAny (model X.prog X.w) X.A (call (.builtin id) (v::us)) (EP X ae σ Q) X.xe s
theorem Vals.un{x:V}{xs:List V}{us:List AA}(h:Vals (x::xs) us):∃u r,us=u::r/\RelV x u/\Vals xs r:=by
 cases h with
 | cons r t=>exact⟨_,_,rfl,r,t⟩
theorem Vals.no{us:List AA}(h:Vals [] us):us=[]:=by
 cases h;rfl
theorem Vals.one{x:V}{us:List AA}(h:Vals [x] us):∃u,us=[u]/\RelV x u:=by
 obtain⟨u,r,rfl,h1,h⟩:=h.un;cases h.no;exact⟨u,rfl,h1⟩
theorem Vals.two{x y:V}{us:List AA}(h:Vals [x,y] us):∃u v,us=[u,v]/\RelV x u/\RelV y v:=by
 obtain⟨u,r,rfl,h1,h⟩:=h.un;obtain⟨v,rfl,h2⟩:=h.one;exact⟨u,v,rfl,h1,h2⟩
theorem Vals.rep{xs:List V}{us:List AA}(h:Vals xs us):∀k:Nat,Vals (List.replicate k xs).flatten (List.replicate k us).flatten
 | 0=>.nil
 | k+1=>by
  rw[OJ,OJ,Mm,Mm];exact Vals.append h (Vals.rep h k)
theorem foldl_rep(its:List AA):∀(k:Nat)(acc:List AA),
  List.foldl (fun x1 x2=>x1++x2) acc.toArray (List.replicate k its.toArray)=(acc++(List.replicate k its).flatten).toArray
 | 0,acc=>by simp
 | k+1,acc=>by
  have e:acc.toArray++its.toArray=(acc++its).toArray:=by simp
  have e2:(acc++its)++(List.replicate k its).flatten=acc++(List.replicate (k+1) its).flatten:=by
   rw[OJ,Mm,GX]
  rw[<- e2,<- foldl_rep its k (acc++its),<- e,OJ,List.foldl_cons]
section
variable{X:Cx}{ae:LA}{σ:St}{H:Hp}{s:AB}{l b:Addr}{xs ys zs:List V}
theorem Inv.acN{its its':List AA}{n:Nat}{f:Array AA->Array AA}{t':Nat}(I:Inv X ae σ H s)(hH:H l=some (.lst xs))
  (e:s.heap.get? l=some { cls:=.type "list",data:=.seq its.toArray n }) (hf:f its.toArray=its'.toArray) (hv:Vals ys its') (hz:ys.length<=sizeLine) :
  Inv X ae σ (upd H l (.lst ys)) { s with heap:=s.heap.update l (Obj.mapSeq f),toks:=t' }:=by
 have q:=PySem.IsL.update e f;rw[hf] at q;refine I.write (x:=l) (e:=l) (by rw[hH]; exact trivial) (.inl rfl) (fun b' u hb hu=>(wC s.heap (Obj.mapSeq f) (Ne.symm hb)).trans hu) ⟨_,q⟩ ?_
 exact⟨hz,its',_,hv,q⟩
theorem Inv.aaf{its:List AA}{t':Nat}(I:Inv X ae σ H s)(hv:Vals ys its)(hz:ys.length<=sizeLine) :
  Inv X ae σ (upd H s.heap.objs.size (.lst ys)) { s with heap:=s.heap.push { cls:=.type "list",data:=.seq its.toArray },toks:=t' }:=
 I.laid (fun _ _ q=>eF _ q) (bJ _) ⟨hz,its,0,hv,dI _ rfl⟩
theorem Inv.fresh(I:Inv X ae σ H s):H s.heap.objs.size=none:=I.hok.fresh (bJ _)
theorem Inv.S6(I:Inv X ae σ H s)(hH:H l=some (.lst xs)):xs.length<=sizeLine/\∃(its:List AA)(n:Nat),Vals xs its/\xs.length=its.length/\s.heap.get? l=some { cls:=.type "list",data:=.seq its.toArray n }:=by
 obtain⟨z,its,n,r,e⟩:=I.hok l _ hH;exact⟨z,its,n,r,r.length,e⟩
theorem SN{n:Nat}(h:n<=sizeLine):Builtin.List.listTooLong n=false:=by
 unfold Builtin.List.listTooLong;exact mJ ∅
end
section
variable{X:Cx}
def Mj:V->List V->Hp->VK->Prop:=fun x vs H Q=>∃l xs y,x=.ref l/\vs=[y]/\H l=some (.lst xs)/\xs.length<sizeLine/\Q .non (upd H l (.lst (xs++[y])))
theorem eN:MtM X "list.append" Mj:=by
 intro ae s σ H x vs v us Q I rx rv h;obtain⟨l,xs,y,rfl,rfl,hH,hz,q⟩:=h;cases rx;obtain⟨u,rfl,ru⟩:=rv.one;obtain⟨z,its,n,r,hl,e⟩:=I.S6 hH;refine call_meets F.slot_list_append ⟨_,e,rfl⟩ F.entry_list_append (F.args_list_append_2 _ _) (PySem.list_append l its.toArray n u (by rw[gb]; omega)) ⟨e,?_⟩
 refine⟨.non,_,I.acN (its':=its++[u]) hH e (by simp) (r.append (.cons ru .nil)) ?_,rfl,q⟩
 rw[dg,List.length_singleton];omega
def Ox:R2:=fun x y H Q=>∃l b xs zs,x=.ref l/\y=.ref b/\H l=some (.lst xs)/\H b=some (.lst zs)/\xs.length+zs.length<=sizeLine/\∀p,H p=none->Q (.ref p) (upd H p (.lst (xs++zs)))
theorem Eo:ou X (binaryOp .Add) Ox:=by
 symm;intro x y v u Q I rx ry h;obtain⟨l,b,xs,zs,rfl,rfl,hH,hB,hz,q⟩:=h;cases rx;cases ry;obtain⟨z,its,n,r,hl,e⟩:=I.S6 hH;obtain⟨z2,its2,n2,r2,hl2,e2⟩:=I.S6 hB;refine PySem.P.add_list e e2 ?_ (by rw[gb,gb]; omega)
 have ea:its.toArray++its2.toArray=(its++its2).toArray:=by simp
 rw[ea];exact⟨.ref _,_,I.aaf (t':=s.toks) (r.append r2) (by rw[dg]; omega),rfl,q _ I.fresh⟩
def ae8:R2:=fun x y H Q=>∃l k xs,x=.ref l/\y=.int k/\H l=some (.lst xs)/\-(2 ^ 63)<=k/\k<2 ^ 63/\xs.length*k.toNat<=sizeLine /\
 ∀p,H p=none->Q (.ref p) (upd H p (.lst (List.replicate k.toNat xs).flatten))
theorem len_rep{α:Type}(xs:List α)(k:Nat):(List.replicate k xs).flatten.length=k*xs.length:=by
 induction k with
 | zero=>simp
 | succ k ih=>rw[OJ,Mm,dg,ih,Nat.succ_mul,Nat.add_comm]
theorem ZZ:ou X (binaryOp .Mult) ae8:=by
 symm;intro x y v u Q I rx ry h;obtain⟨l,k,xs,rfl,rfl,hH,h1,h2,hz,q⟩:=h;cases rx;obtain⟨t,rfl⟩:=ry;obtain⟨z,its,n,r,hl,e⟩:=I.S6 hH;have hlen:its.toArray.size*k.toNat<=sizeLine:=by rw[gb,<- hl]; exact hz
 have afV:¬its.toArray.size*k.toNat>(2 ^ 63-1) / 8:=by
  have:(sizeLine:Nat)<=(2 ^ 63-1) / 8:=by decide
  omega
 have hfit:¬(!Builtin.List.listFitsIndex k)=true:=by
  rw[fitsIndex_both h1 h2];exact lg
 have acU:¬Builtin.List.listTooLong (its.toArray.size*k.toNat)=true:=by
  rw[SN hlen];exact lg
 have hnew:List.foldl (fun x1 x2=>x1++x2) #[] (List.replicate (if its.toArray.isEmpty=true then 0 else k.toNat) its.toArray)=(List.replicate k.toNat its).flatten.toArray:=by
  have f0:∀m:Nat,List.foldl (fun x1 x2=>x1++x2) #[] (List.replicate m its.toArray)=(List.replicate m its).flatten.toArray:=fun m=>by
   have:=foldl_rep its m [];rw[Hm] at this;exact this
  rw[f0];cases its with
  | nil=>simp
  | cons a r'=>rw[aQ (by simp)]
 refine wpAny_binaryOp_repeat_ref (T:="list") (U:="int") ⋯ ⟨_,e,rfl⟩ (fun s'=>typeIs_int s' k t) noFill_list_mul F.fills_int_mul F.slot_int_rmul repeat_list F.slot_int_index.lookup
  (call_meets F.slot_int_rmul (typeIs_int s k t) F.entry_int_rmul (F.args_int_rmul_2 _ _) (int___rmul___int_list k t l its.toArray n)
   ⟨e,rfl,⟨_,e,rfl⟩,call_meets F.slot_list_mul ⟨_,e,rfl⟩ F.entry_list_mul (F.args_list_mul_2 _ _) (AutoListH.list___mul___list_int_3 l its.toArray n k t hfit afV acU) ⟨e,?_⟩⟩)
 rw[hnew];exact⟨.ref _,_,I.aaf (t':=s.toks) (r.rep k.toNat) (by rw[len_rep,Nat.mul_comm]; exact hz),rfl,q _ I.fresh⟩
end
section
variable{prog:AC}{w:World}{A:Around}{E:AA->AB->Prop}{s:AB}
end
section
variable{X:Cx}
end
end _L
namespace Att
open PySem PySem.W PySem.Calls PyProof.Rows
theorem wM{P:Params}{h:Heap}:∀(ns:List Int)(vs:List AA),WellAll P h vs (ns.map WData.int)->IntsAre vs ns:=by
 intro ns
 induction ns with
 | nil=>
  intro vs w;rw[List.map_nil] at w;cases w;exact .nil
 | cons n ns ih=>
  intro vs w;rw[iI] at w;cases w with
  | cons a b=>
   cases a;exact .cons _ _ (ih _ b)
theorem Ot{l:OpenLaw}{n:Nat}(hn:l.most=some n){P:Params}{h:Heap}{args:List WData}{vals:List AA}
  (hpre:l.row.toRowW.claim.pre args=true) (hwl:WellAll P h vals args) :
  ∃a vs ns,vals=[Value.ref a]/\args=[WData.list (ns.map WData.int)]/\h.get? a=some { cls:=.type "list",data:=.seq vs.toArray }/\IntsAre vs ns/\ns.length<=n:=by
 have hsh:WShape.hasAll [] args [.list .int]=true:=(pre_splitW hpre).1;have hc:l.pre.holds [] { args:=args }=true:=(pre_splitW hpre).2;obtain⟨d,r,rfl,h1,h2⟩:=hasAllW_cons hsh;obtain rfl:=hasAllW_nil h2;obtain⟨xs,rfl,h3⟩:=hasW_list h1;obtain⟨ns,rfl⟩:=items_int h3
 have hlen:ns.length<=n:=by
  unfold OpenLaw.pre at hc
  have h4:(WTm.not (.lt (.lit (.int (n:Int))) (.len (.arg 0)))).holds [] { args:=[.list (ns.map .int)] }=true:=by
   have h4:=(holds_andW hc).1;rw[hn] at h4;exact h4
  have h5:=condW_of h4 (w_not (w_lt w_lit (w_len_list (w_arg rfl))));rw[bW] at h5;refine Nat.le_of_not_lt fun q=>?_;have q':(n:Int)<((ns.length:Nat):Int):=by omega
  first
   | (rw[jF q'] at h5; exact absurd h5 ⋯)
   | (simp at h5; omega)
 cases hwl with
 | cons w1 w2=>
  cases w2;cases w1 with
  | list ho hall=>exact⟨_,_,ns,rfl,rfl,ho,wM ns _ hall,hlen⟩
theorem O3(l:OpenLaw)(args:List WData):l.row.toRowW.claim.post args (.bool true) args=true:=
 postW_of (r:=l.row.toRowW) (X:=(true==true))
  (show WShape.has [] (.bool true) .bool=true by first | rfl | decide | simp[WShape.has,WShape.arms,WShape.armsAll])
  (show(WTm.eq .res (.lit (.bool true))).value [] { args:=args,res:=some (.bool true),after:=args }=some (.bool (true==true)) from w_eq_bool (w_res rfl) w_lit) rfl
theorem I_{l:OpenLaw}{n:Nat}{q:AC}{loose:List Str}{XP:(Str->Option AA)->Heap->Prop}{YP:World->Heap->Prop}{d:DefRec}
  (hn:l.most=some n) (hdf:d.params.defaults=[])
  (call:∀(w:World)(s₀ s₁:AB)(mg mb:Str->Option AA)(fa:Addr)(o:Obj)(pm cd doc:AA)(a:Addr)(vs:List AA)(ns:List Int),
   Ground q loose [] XP w s₀ mg mb s₁.heap->YP w s₁.heap ->
   s₁.heap.get? fa=some o->o.data=.func (docDef d.name d.params d.body d.scope pm cd doc)->s₁.heap.CodeRec cd d.name->mg d.name=some (.ref fa) ->
   s₁.heap.get? a=some { cls:=.type "list",data:=.seq vs.toArray }->IntsAre vs ns->ns.length<=n->s₁.gens = #[] ->
   codeAny (model l.prog w) callerA (.call (.ref fa) ⟨[.ref a],[]⟩) (fun r s'=>r=.ok (.ret (.bool true))/\OldK s₁.heap s'.heap/\s'.os=s₁.os/\AllBare s'.gens) s₁) :
  WalkO q loose XP YP l.row.toRowW d [] (fun f vs=>PySem.call f vs):=by
 intro w s₀ s₁ mg mb G Y fa o pm cd doc dV kV ho hd hcd hD hmg hg args vals as hpre hlay hrd hwl hlo;obtain rfl:dV=.none:=Dflts.none hD hdf;obtain rfl:kV=.none:=Dflts.noKw hD;obtain⟨a,vs,ns,rfl,rfl,hobj,hints,hlen⟩:=Ot hn hpre hwl;refine enter_call (codeAny_mono (call w s₀ s₁ mg mb fa o pm cd doc a vs ns G Y ho (fd_plain hd) hcd hmg hobj hints hlen hg) fun r s' hq=>?_);obtain⟨rfl,h2,h3,h4⟩:=hq;exact⟨.inl ⟨.bool true,.bool true,[],rfl,fun _=>rfl,.bool true,O3 l _,fun _=>⟨List.Pairwise.nil,fun _ hm=>(nomatch hm)⟩⟩,h2,h3,h4⟩
section
variable{prog:AC}{w:World}{A:Around}{E:AA->AB->Prop}{s:AB}{K:Frag}
def ledger(h:Heap)(L d:Addr):LA:=(List.range h.objs.size).filterMap fun a=>if a=L\/a=d then none else(h.get? a).map fun o=>(a,o)
end
end Att
namespace _L
open PySem PySem.Spec PyProof.Rows
theorem Bw:∀{vs:List AA}{ns:List Int},IntsAre vs ns->Vals (ns.map V.int) vs
 | _,_,.nil=>.nil
 | _,_,.cons n t h=>.cons ⟨t,rfl⟩ (Bw h)
def Only(H:Hp):Prop:=∀b,H b=none\/∃o xs,H b=some (.tW o (.lst xs))
theorem S9{P:AC}{w:World}{K:Frag}{mg mb:Str->Option AA}{CX:Ob}{k:Nat}{fa a:Addr}{fd:FuncData}{x:Str}{sp:Sp}{s₁:AB}{vs:List AA}{ns:List Int}
  (KX:K.In s₁.heap) (hns:s₁.heap.Ns mainGlobals mg) (hb:s₁.heap.Ns builtinsNs mb) (hbb:∀x:Str,x ≠ "__name__" -> mb x=bootBuiltins x) (hlim:s₁.heap.NoLimit) (hg:s₁.gens = #[])
  (ha:s₁.heap.get? a=some { cls:=.type "list",data:=.seq vs.toArray }) (hi:IntsAre vs ns) (hl:ns.length<=sizeLine) (hr:fU k callerA)
  (F:∀base:Heap,K.In base->base.Ns mainGlobals mg->bI P w K mg base CX k fa fd [x] sp) (hbind:∀(s:AB)(u:AA),BindsTo s fd ⟨[u],[]⟩ [(x,u)])
  (hsp:∀H:Hp,Only H->cG K H a (ns.map V.int)->sp [.ref a] H (fun v _=>v=.bl true) fun _ _ _=>False)
  (hCX:∀H e s',CX [] H s₁ (fun _ _ _=>False) e s'->False) :
  codeAny (model P w) callerA (.call (.ref fa) ⟨[.ref a],[]⟩) (fun r s'=>r=.ok (.ret (.bool true))/\OldK s₁.heap s'.heap/\s'.os=s₁.os/\AllBare s'.gens) s₁:=by
 have rv:=Bw hi;have lenV:=hi.length;have core:∀H:Hp,Only H->cG K H a (ns.map V.int)->lJ P w H s₁.heap->(∀b,H b≠none->b=a)->(H a≠none->K.lookup a=none) ->
   codeAny (model P w) callerA (.call (.ref fa) ⟨[.ref a],[]⟩) (fun r s'=>r=.ok (.ret (.bool true))/\OldK s₁.heap s'.heap/\s'.os=s₁.os/\AllBare s'.gens) s₁:=by
  intro H hO hS hok hA hK;have N_:∀{b:Addr}{o:Obj},s₁.heap.get? b=some o->H b=none->(Fe s₁.heap H).get? b=some o:=fun e n=>Tv e n
  have noA:∀{b:Addr}{o:Obj}{es:Array DictEntry}{ep:Nat},s₁.heap.get? b=some o->o.data=.dict es ep->H b=none:=fun {b o es ep} e d=>by
   cases q:H b with
   | none=>rfl
   | some u=>
    have e':b=a:=hA b (by rw[q]; simp)
    subst e';rw[ha] at e; cases e;have d':Data.seq vs.toArray _=Data.dict es ep:=d;cases d'
  have nsK:∀{b:Addr}{m:Str->Option AA},s₁.heap.Ns b m->(Fe s₁.heap H).Ns b m:=fun {b m} ⟨o,es,ep,e,d,r⟩=>⟨o,es,ep,N_ e (noA e d),d,r⟩
  have hKb:K.In (Fe s₁.heap H):=fun b o e=>N_ (KX b o e) (by
   cases q:H b with
   | none=>rfl
   | some u=>
    have e':b=a:=hA b (by rw[q]; simp)
    subst e'
    rw[hK (by rw[q]; simp)] at e; cases e)
  have hM:Mod K mg (Fe s₁.heap H):=⟨hKb,nsK hns,⟨mb,nsK hb,hbb⟩,let ⟨mc,h1,h2⟩:=hlim; ⟨mc,nsK h1,h2⟩⟩;have e0:Lj P w K mg (Fe s₁.heap H) callerA [] s₁ H:=⟨rfl,hM,fun b o e=>Wq e,Nat.le_of_eq (PQ _ _),trivial,fun b hb=>absurd (show b∈([]:List Addr) from hb) (by simp),hok,.of_eq hg⟩
  refine codeAny_mono ((F _ hKb (nsK hns)).run callerA [] s₁ H ⟨[.ref a],[]⟩ [.ref a] [.ref a] _ _ hr e0 (hbind s₁ (.ref a)) (.cons rfl .nil) (hsp H hO hS)) fun r s' h=>?_;cases r with
  | error e=>exact(hCX H e s' h).elim
  | ok fl=>
   cases fl with
   | next=>exact False.elim h
   | brk=>exact False.elim h
   | cont=>exact False.elim h
   | ret u=>
    obtain⟨v,H',os,bare,un,hok',r',q⟩:=h;have q':v=.bl true:=q;subst q';obtain rfl:u=Value.bool true:=r';refine⟨rfl,OldK.of_keep fun b o e=>?_,os,bare⟩;cases q:H b with
    | none=>exact un.keep b o e q (by intro z; exact absurd (show b∈([]:List Addr) from z) (by simp)) (by simp)
    | some u=>
     rcases hO b with z | ⟨ob,xs,z⟩
     ·rw[q] at z; cases z
     ·have z2:=un.wN b ob _ z;obtain⟨e1,_⟩:=hok b _ z;obtain⟨e2,_⟩:=hok' b _ z2;rw[e] at e1; cases e1;exact e2
 cases hk:K.lookup a with
 | some o=>
  have e:=KX a o hk;rw[ha] at e;cases e;refine core (fun _=>none) (fun _=>.inl rfl) (.inr ⟨_,vs.toArray,_,hk,rfl,rfl,rfl,by rw[gb,lenV]; exact hl,by simpa using rv⟩) (fun b u z=>by have z':(none:Option HO)=some u:=z; cases z') (fun b z=>absurd rfl z) fun z=>absurd rfl z
 | none=>
  refine core (fun b=>if b=a then some (.tW { cls:=.type "list",data:=.seq vs.toArray } (.lst (ns.map V.int))) else none) (fun b=>?_) (.inl (.inr ⟨{ cls:=.type "list",data:=.seq vs.toArray },aX rfl⟩)) (fun b u z=>?_) (fun b z=>?_) fun _=>hk
  ·by_cases hb:b=a
   ·exact .inr ⟨_,_,aX hb⟩
   ·exact .inl (aQ hb)
  ·by_cases hb:b=a
   ·have z':=(aX hb).symm.trans z;cases z';subst hb;exact⟨ha,by rw[bW]; exact hl,vs,_,rv,ha⟩
   ·have z':=(aQ hb).symm.trans z;cases z'
  ·by_cases hb:b=a
   ·exact hb
   ·exact absurd (aQ hb) z
abbrev KOf{K:Frag}{h:Heap}(_:K.In h):Frag:=K
theorem Vj{l:PySem.W.OpenLaw}{n k:Nat}{q:AC}{loose:List Str}{XP:(Str->Option AA)->Heap->Prop}{YP:World->Heap->Prop}{d:DefRec}{K:Params->Frag}{CX:World->Ob}{sp:World->Sp}{x:Str}
  (hn:l.most=some n) (hn2:n<=sizeLine) (hdf:d.params.defaults=[]) (hr:fU k callerA)
  (hY:∀(w:World)(h:Heap),YP w h->(K w.params).In h)
  (F:∀(w:World)(mg:Str->Option AA)(fa:Addr)(h:Heap),(K w.params).In h->h.Ns mainGlobals mg->mg d.name=some (.ref fa) ->
   ∃fd:FuncData,(∀(s:AB)(u:AA),BindsTo s fd ⟨[u],[]⟩ [(x,u)]) /\
    ∀base:Heap,(K w.params).In base->base.Ns mainGlobals mg->bI l.prog w (K w.params) mg base (CX w) k fa fd [x] (sp w))
  (hsp:∀(w:World)(H:Hp)(a:Addr)(ns:List Int),ns.length<=n->Only H->cG (K w.params) H a (ns.map V.int)->sp w [.ref a] H (fun v _=>v=.bl true) fun _ _ _=>False)
  (hCX:∀(w:World)(H:Hp)(s:AB)(e:AA)(s':AB),CX w [] H s (fun _ _ _=>False) e s'->False) :
  PySem.W.WalkO q loose XP YP l.row.toRowW d [] (fun f vs=>PySem.call f vs):=by
 refine Att.I_ hn hdf fun w s₀ s₁ mg mb fa o pm cd doc a vs ns G Y ho hd hcd hmg hobj hints hlen hg=>?_;have KX:=hY w _ Y;obtain⟨fd,hb,hF⟩:=F w mg fa _ KX G.T.g hmg;exact S9 KX G.T.g G.T.b G.T.builtins G.T.nolimit hg hobj hints (lW hlen hn2) hr hF hb (fun H hO hS=>hsp w H a ns hlen hO hS) fun H e s'=>hCX w H s₁ e s'
end _L
namespace _L
open PySem PySem.Spec PyProof.Rows
def inClass(s:Stmt)(j:Nat):Stmt:=match s with
 | .ClassDef _ _ _ body _ _ _ _ _ _ _=>body.getD j (.Pass ⟨0,0,0,0⟩)
 | _=>.Pass ⟨0,0,0,0⟩
def cJ(s:Stmt):Arguments:=match s with
 | .FunctionDef _ a _ _ _ _ _ _ _ _=>a
 | _=>{ posonlyargs:=[],args:=[],vararg:=none,kwonlyargs:=[],kw_defaults:=[],kwarg:=none,defaults:=[] }
def b8(s:Stmt):List Stmt:=match s with
 | .FunctionDef _ _ b _ _ _ _ _ _ _=>b
 | _=>[]
def aK(s:Stmt):Scope:=match s with
 | .FunctionDef _ _ _ _ _ _ sc _ _ _=>sc
 | _=>{ kind:=.function,names:=[],isGenerator:=false,isCoroutine:=false }
abbrev gQ:Ob:=fun _ _ _ _ _ _=>False
abbrev E0:XK:=fun _ _ _=>False
theorem Hx{X:Cx}:Passes gQ X E0:=fun _ _ _ _ _ _ _ h=>h.elim
structure iT(K:Frag)(x qual:Str)(st:Stmt)(f:Addr)(fd:FuncData):Prop where
 ex:∃(oc:AA)(od:Option Addr)(kV doc pm:AA)(an:Option Addr)(cdv ct:AA)(osl:Array (Option AA)),
  fd=fnOf x qual (cJ st) (b8 st) (aK st) .none kV doc pm an cdv ct/\K.lookup f=some ⟨oc,od,.func fd,osl⟩/\codeIn K cdv qual=true
 kp:keepIn K (.ref f)=true
section
variable{P:AC}{w:World}{K:Frag}{mg:Str->Option AA}{base:Heap}
theorem iT.ok{x qual:Str}{st:Stmt}{f:Addr}{fd:FuncData}{N ps:List Str}{k:Nat}{sp:Sp}(F:iT K x qual st f fd)(S:bf N ps (aK st))(len: autoParam (∀vs H Q E,sp vs H Q E->vs.length=ps.length) zg._auto_1)
  (hbody:∀(cdv:AA)(A:Around)(outer:List Env)(s:AB)(H:Hp)(vs:List V)(Q:VK)(E:XK),fU k (A.deeper (envOfC qual (aK st) s.heap.objs.size f cdv))->sp vs H Q E ->
   ∃t,Dw (iC gQ P w K mg base N qual (aK st) f cdv A outer s H E).nox (b8 st) t/\t { nx:=fun _ H'=>Q .non H',rt:=Q } (start N vs) H):bI P w K mg base gQ (k+1) f fd ps sp:=by
 obtain⟨oc,od,kV,doc,pm,an,cdv,ct,osl,rfl,lk,hcd⟩:=F.ex;refine Yo lk hcd S len fun A outer s H vs Q E hr hsp=>?_;obtain⟨t,h,q⟩:=hbody cdv A outer s H vs Q E hr hsp;exact⟨t,h.nox,q⟩
theorem iT.binds{x qual:Str}{st:Stmt}{f:Addr}{fd:FuncData}{ps:List Str}(F:iT K x qual st f fd)
  (h:∀(kV doc pm:AA)(an:Option Addr)(cdv ct:AA)(us:List AA),us.length=ps.length->bindArgs (fnOf x qual (cJ st) (b8 st) (aK st) .none kV doc pm an cdv ct) ⟨us,[]⟩=pure (ps.zip us)):Binds K fd ps []:=by
 obtain⟨oc,od,kV,doc,pm,an,cdv,ct,osl,rfl,lk,hcd⟩:=F.ex;exact .all (h kV doc pm an cdv ct)
theorem Kq{x qual:Str}{st:Stmt}{f:Addr}{oc:AA}{od an:Option Addr}{osl:Array (Option AA)}{kV doc pm cdv ct:AA}(l:K.lookup f=some ⟨oc,od,.func (fnOf x qual (cJ st) (b8 st) (aK st) .none kV doc pm an cdv ct),osl⟩)
  (c:codeIn K cdv qual=true) (k:keepIn K (.ref f)=true):iT K x qual st f (fnOf x qual (cJ st) (b8 st) (aK st) .none kV doc pm an cdv ct):=⟨⟨oc,od,kV,doc,pm,an,cdv,ct,osl,rfl,l,c⟩,k⟩
end
theorem a_{n:Nat}(h:n<=1000):n<sizeLine:=Mq h ⋯
section
variable{X:Cx}
theorem pv(i:Nat){x:Str}{pos:Pos}(hN: ~~~(X.N[i]?=some x))(hv:Vis X.env.scope x:=by walk_at "v")(hd:((x==("__debug__" : Str))=false)⁻¹)
  (hcd:((x==("__classdict__" : Str))=false)⁻¹):PE X (.Name x pos) (qO i):=ZQ hN hv hd hcd
end
theorem acQ{c A B:Prop}[Decidable c](h1:c->A)(h2:¬c->B):if c then A else B:=by
 by_cases h:c
 ·rw[aX h];exact h1 h
 ·rw[aQ h];exact h2 h
def aL(H H':Hp):Prop:=∀b o,H b=some o->H' b=some o
theorem aL.refl(H:Hp):aL H H:=fun _ _ h=>h
theorem aL.trans{H H1 H2:Hp}(a:aL H H1)(b:aL H1 H2):aL H H2:=fun c o h=>b c o (a c o h)
theorem aL.free{H H':Hp}(e:aL H H'){l:Addr}(h:H' l=Option.none):H l=Option.none:=by
 cases q:H l with
 | none=>rfl
 | some o=>
  rw[e l o q] at h;cases h
section
variable{κ:Type}[DecidableEq κ]
def iz(kvs:List (κ×V))(k:κ):Option V:=(kvs.find? fun kv=>decide (kv.1=k)).map (·.2)
def putK(kvs:List (κ×V))(k:κ)(v:V):List (κ×V):=
 if(kvs.any fun kv=>decide (kv.1=k))=true then kvs.map (fun kv=>if kv.1=k then(kv.1,v) else kv) else kvs++[(k,v)]
theorem Q5{k:κ}:iz ([]:List (κ×V)) k=none:=rfl
theorem fC{p:κ×V}{r:List (κ×V)}{k:κ}(e:p.1=k):iz (p::r) k=some p.2:=by simp[iz,Cq,e]
theorem fY{p:κ×V}{r:List (κ×V)}{k:κ}(e:¬p.1=k):iz (p::r) k=iz r k:=by simp[iz,Cq,e]
theorem su(k:κ):∀kvs:List (κ×V),(kvs.any fun kv=>decide (kv.1=k))=(iz kvs k).isSome
 | []=>rfl
 | p::r=>by
  rw[yz];by_cases e:p.1=k
  ·simp only[fC e,jF e,Bool.true_or,Option.isSome_some]
  ·rw[fY e,mJ e,Bool.false_or]; exact su k r
theorem Gm(k j:κ)(y:V):∀kvs:List (κ×V),iz (kvs.map fun kv=>if kv.1=k then(kv.1,y) else kv) j=(iz kvs j).map fun x=>if j=k then y else x
 | []=>rfl
 | p::r=>by
  have ih:=Gm k j y r;rw[iI];by_cases h:p.1=k
  ·rw[aX h];by_cases e:p.1=j
   ·rw[fC (p:=(p.1,y)) e,fC e,Cr,aX (e.symm.trans h)]
   ·rw[fY (p:=(p.1,y)) e,fY e,ih]
  ·rw[aQ h];by_cases e:p.1=j
   ·rw[fC (p:=p) e,fC e,Cr,aQ (fun z=>h (e.trans z))]
   ·rw[fY (p:=p) e,fY e,ih]
theorem Bx(k j:κ)(y:V):∀kvs:List (κ×V),iz kvs k=none->iz (kvs++[(k,y)]) j=if j=k then some y else iz kvs j
 | [],_=>by
  by_cases e:k=j
  ·rw[aX e.symm]; exact fC (p:=(k,y)) e
  ·rw[aQ (fun z=>e z.symm)]; exact fY (p:=(k,y)) e
 | p::r,hn=>by
  rw[List.cons_append];have hk:¬p.1=k:=fun z=>by rw[fC z] at hn; cases hn
  rw[fY hk] at hn;have ih:=Bx k j y r hn;by_cases e:p.1=j
  ·rw[fC e,fC e,aQ (fun z=>hk (e.trans z))]
  ·rw[fY e,fY e,ih]
theorem xq(kvs:List (κ×V))(k j:κ)(y:V):iz (putK kvs k y) j=if j=k then some y else iz kvs j:=by
 unfold putK;by_cases a:(kvs.any fun kv=>decide (kv.1=k))=true
 ·rw[aX a,Gm];rw[su] at a;by_cases e:j=k
  ·obtain⟨x,hx⟩:=O1.mp a;rw[aX e,e,hx,Cr,aX rfl]
  ·rw[aQ e];cases iz kvs j with
   | none=>rfl
   | some x=>rw[Cr,aQ e]
 ·rw[aQ a];refine Bx k j y kvs ?_;rw[su] at a;cases q:iz kvs k with
  | none=>rfl
  | some x=>rw[q] at a; exact(a rfl).elim
theorem iy(kvs:List (κ×V))(k:κ)(v:V):(putK kvs k v).length<=kvs.length+1:=by
 unfold putK;split
 ·rw[bW]; omega
 ·rw[dg,fH,rm]; omega
theorem oh.PN{o:Option V}{u:Option AA}(r:oh o u):o.isSome=u.isSome:=by
 cases o with
 | none=>cases u with
  | none=>rfl
  | some _=>exact(show False from r).elim
 | some _=>cases u with
  | none=>exact(show False from r).elim
  | some _=>rfl
theorem oh.getD{o:Option V}{u:Option AA}{d:V}{d':AA}(r:oh o u)(rd:RelV d d'):RelV (o.getD d) (u.getD d'):=by
 cases o with
 | none=>cases u with
  | none=>exact rd
  | some _=>exact(show False from r).elim
 | some _=>cases u with
  | none=>exact(show False from r).elim
  | some _=>exact r
theorem KV.val{kvs:List (κ×V)}{vs:List (κ×AA)}(r:KV kvs vs)(k:κ):oh (iz kvs k) (valueAt vs k):=by
 unfold KV at r
 induction r with
 | nil=>exact True.intro
 | @cons p q ps qs h t ih=>
  obtain⟨h1,h2⟩:=h;by_cases e:p.1=k
  ·have e':q.1=k:=h1.symm.trans e;have b:valueAt (q::qs) k=some q.2:=by simp[valueAt,Cq,e']
   rw[fC e,b]; exact h2
  ·have e':¬q.1=k:=fun z=>e (h1.trans z);have b:valueAt (q::qs) k=valueAt qs k:=by simp[valueAt,Cq,e']
   rw[fY e,b]; exact ih
theorem KV.any{kvs:List (κ×V)}{vs:List (κ×AA)}(r:KV kvs vs)(k:κ):(kvs.any fun kv=>decide (kv.1=k))=vs.any fun kv=>decide (kv.1=k):=by
 unfold KV at r
 induction r with
 | nil=>rfl
 | cons h t ih=>rw[yz,yz,ih,h.1]
theorem KV.repl{kvs:List (κ×V)}{vs:List (κ×AA)}(r:KV kvs vs)(k:κ){y:V}{u:AA}(ry:RelV y u) :
  KV (kvs.map fun kv=>if kv.1=k then(kv.1,y) else kv) (vs.map fun kv=>if kv.1=k then(kv.1,u) else kv):=by
 unfold KV at r ⊢
 induction r with
 | nil=>exact .nil
 | @cons p q ps qs h t ih=>
  rw[iI,iI];refine .cons ?_ ih;obtain⟨h1,h2⟩:=h;by_cases e:p.1=k
  ·rw[aX e,aX (h1.symm.trans e)]; exact⟨h1,ry⟩
  ·rw[aQ e,aQ (fun z=>e (h1.trans z))]; exact⟨h1,h2⟩
theorem KV.put{kvs:List (κ×V)}{vs:List (κ×AA)}(r:KV kvs vs)(k:κ){y:V}{u:AA}(ry:RelV y u):KV (putK kvs k y) (stored vs k u):=by
 unfold putK stored;rw[r.any k];by_cases e:(vs.any fun kv=>decide (kv.1=k))=true
 ·rw[aX e,aX e]; exact r.repl k ry
 ·rw[aQ e,aQ e]; exact Paired.snoc r ⟨rfl,ry⟩
theorem KV.length{kvs:List (κ×V)}{vs:List (κ×AA)}(r:KV kvs vs):kvs.length=vs.length:=Paired.length r
end
theorem zb{P:AC}{w:World}{k:Key}{u:AA}(r:RelV (kV k) u):(dU P w).is k u=true:=by
 cases k with
 | inl i=>obtain⟨t,e⟩:=(show ∃t,u=Value.int i t from r); subst e; exact Ig P w i t
 | inr x=>obtain⟨t,e⟩:=(show ∃t,u=Value.str x t from r); subst e; exact Ie P w x t
theorem CQ{P:AC}{w:World}:∀{ks:List Key}{us:List AA},Vals (ks.map kV) us->ItemsAre (dU P w) ks us
 | [],_,r=>by rw[List.map_nil] at r; cases r; exact .nil
 | k::ks,_,r=>by
  rw[iI] at r;cases r with
  | cons h t=>exact .cons (zb h) (CQ t)
abbrev KT(H:Hp):List (List Key×V)->List (List Key×Addr×AA)->Prop:=Paired fun p q=>p.1=q.1/\H q.2.1=some (.tup (p.1.map kV))/\RelV p.2 q.2.2
theorem KT.val{H:Hp}{kvs:List (List Key×V)}{xs:List (List Key×Addr×AA)}(r:KT H kvs xs)(k:List Key):oh (iz kvs k) ((atKey xs k).map (·.2)):=by
 induction r with
 | nil=>exact True.intro
 | @cons p q ps qs h t ih=>
  obtain⟨h1,_,h2⟩:=h;by_cases e:p.1=k
  ·have e':q.1=k:=h1.symm.trans e;have b:atKey (q::qs) k=some q.2:=by simp[atKey,Cq,e']
   rw[fC e,b]; exact h2
  ·have e':¬q.1=k:=fun z=>e (h1.trans z);have b:atKey (q::qs) k=atKey qs k:=by simp[atKey,Cq,e']
   rw[fY e,b]; exact ih
theorem KT.repl{H:Hp}{kvs:List (List Key×V)}{xs:List (List Key×Addr×AA)}(r:KT H kvs xs)(k:List Key){y:V}{u:AA}(ry:RelV y u) :
  KT H (kvs.map fun kv=>if kv.1=k then(kv.1,y) else kv) (xs.map (putAt k u)):=by
 induction r with
 | nil=>exact .nil
 | @cons p q ps qs h t ih=>
  rw[iI,iI];refine .cons ?_ ih;obtain⟨h1,h2,h3⟩:=h;unfold putAt;by_cases e:p.1=k
  ·rw[aX e,aX (h1.symm.trans e)]; exact⟨h1,h2,ry⟩
  ·rw[aQ e,aQ (fun z=>e (h1.trans z))]; exact⟨h1,h2,h3⟩
theorem KT.put{H:Hp}{kvs:List (List Key×V)}{xs:List (List Key×Addr×AA)}(r:KT H kvs xs)(k:List Key){b:Addr}{y:V}{u:AA}(hb:H b=some (.tup (k.map kV)))(ry:RelV y u) :
  KT H (putK kvs k y) (storedH xs k b u):=by
 have e:(kvs.any fun kv=>decide (kv.1=k))=(atKey xs k).isSome:=by
  rw[su,(r.val k).PN,Option.isSome_map]
 unfold putK storedH;rw[e];by_cases q:(atKey xs k).isSome=true
 ·rw[aX q,aX q]; exact r.repl k ry
 ·rw[aQ q,aQ q]; exact Paired.snoc r ⟨rfl,hb,ry⟩
theorem KT.keeps{H H':Hp}{kvs:List (List Key×V)}{xs:List (List Key×Addr×AA)}(r:KT H kvs xs)(ht:∀b ys,H b=some (.tup ys)->H' b=some (.tup ys)):KT H' kvs xs:=
 Paired.aab r fun _ _ z=>⟨z.1,ht _ _ z.2.1,z.2.2⟩
section
variable{P:AC}{w:World}{H:Hp}{h:Heap}{a:Addr}
theorem X_{u:HO}(ok:lJ P w H h)(e:Rd H a u):bZ P w H h a u:=e.ok ok
theorem Ij{kvs:List (Key×V)}(ok:lJ P w H h)(e:Rd H a (.dK kvs)):kvs.length<=sizeLine/\(a==sysModules)=false/\∃vs,KV kvs vs/\h.DictOf (dU P w) a vs:=
 show bZ P w H h a (.dK kvs) from X_ ok e
theorem Ik{kvs:List (Key×V)}(ok:lJ P w H h)(e:H a=some (.dK kvs)):kvs.length<=sizeLine/\(a==sysModules)=false/\∃vs,KV kvs vs/\h.DictOf (dU P w) a vs:=Ij ok (.inl e)
theorem E_{ks:List Key}(ok:lJ P w H h)(e:H a=some (.tup (ks.map kV))):(tupleKind (dU P w)).is h ks a:=by
 obtain⟨_,its,r,o,h1,h2,n,h3⟩:=(show bZ P w H h a (.tup (ks.map kV)) from ok a _ e);exact⟨o,its.toArray,n,h1,h2,h3,by simpa using CQ r⟩
theorem Ii{kvs:List (List Key×V)}(ok:lJ P w H h)(e:Rd H a (.dT kvs)):kvs.length<=sizeLine/\(a==sysModules)=false /\
  ∃xs,KT H kvs xs/\h.DictOfH (tupleKind (dU P w)) a xs:=by
 obtain⟨z,y,xs,r,o,es,ep,h1,h2,h3,h4,h5⟩:=(show bZ P w H h a (.dT kvs) from X_ ok e);refine⟨z,y,xs,r,o,es,ep,h1,h2,h3,h4,fun x hx=>?_,h5⟩
 have all:∀{l:List (List Key×V)}{m:List (List Key×Addr×AA)},KT H l m->∀x∈m,(tupleKind (dU P w)).is h x.1 x.2.1:=by
  intro l m q
  induction q with
  | nil=>intro x hx; exact nomatch hx
  | @cons p q ps qs hq t ih=>
   intro x hx;rcases bN.mp hx with e | hx
   ·subst e;exact E_ ok (by rw[<- hq.1]; exact hq.2.1)
   ·exact ih x hx
 exact all r x hx
theorem adk{kvs:List (List Key×V)}(ok:lJ P w H h)(e:H a=some (.dT kvs)):kvs.length<=sizeLine/\(a==sysModules)=false /\
  ∃xs,KT H kvs xs/\h.DictOfH (tupleKind (dU P w)) a xs:=Ii ok (.inl e)
end
def jL(H:Hp)(a:Addr)(y:V)(r:Option V):Prop:=
 (∃kvs k,Rd H a (.dK kvs)/\y=kV k/\r=iz kvs k)\/∃kvs k b,Rd H a (.dT kvs)/\y=.ref b/\H b=some (.tup (k.map kV))/\r=iz kvs k
def uw(H:Hp)(a:Addr)(y v:V)(H':Hp):Prop:=
 (∃kvs k,H a=some (.dK kvs)/\y=kV k/\kvs.length<sizeLine/\H'=upd H a (.dK (putK kvs k v))) \/
 ∃kvs k b,H a=some (.dT kvs)/\y=.ref b/\H b=some (.tup (k.map kV))/\kvs.length<sizeLine/\H'=upd H a (.dT (putK kvs k v))
theorem jL.k{H:Hp}{a:Addr}{kvs:List (Key×V)}{k:Key}(e:H a=some (.dK kvs)):jL H a (kV k) (iz kvs k):=.inl ⟨kvs,k,.inl e,rfl,rfl⟩
theorem uw.k{H:Hp}{a:Addr}{kvs:List (Key×V)}{k:Key}{v:V}(e:H a=some (.dK kvs))(hl:kvs.length<sizeLine):uw H a (kV k) v (upd H a (.dK (putK kvs k v))):=.inl ⟨kvs,k,e,rfl,hl,rfl⟩
section
variable{X:Cx}{ae:LA}{σ:St}{H:Hp}{s:AB}{a:Addr}{y v:V}{u r:AA}{o:Option V}{A:Around}{E:AA->AB->Prop}
theorem Inv.big(I:Inv X ae σ H s):sysModules<s.heap.objs.size:=by
 have h:mainGlobals<s.heap.objs.size:=(I.mod.glob.keeps I.bk).lt;exact Hh ⋯ h
theorem Dl{Q:AA->AB->Prop}(hu:A.units+1<cLine)(I:Inv X ae σ H s)(g:jL H a y (some v))(ry:RelV y u)(h:∀w' s',Inv X ae σ H s'->RelV v w'->Q w' s') :
  wpAny (model X.prog X.w) A (getItem (.ref a) u) Q E s:=by
 rcases g with⟨kvs,k,e,ey,l⟩ | ⟨kvs,k,b,e,ey,eb,l⟩
 ·subst ey;obtain⟨z,hd,vs,rel,dd⟩:=Ij I.hok e;obtain⟨w',hw,D_⟩:=oh.some_of (v:=v) (o:=valueAt vs k) (by rw[l]; exact rel.val k)
  exact wpAny_getItem_of (zb ry) dd.mapOf hw (h w' _ (I.tok _) D_)
 ·subst ey;cases(show u=Value.ref b from ry);obtain⟨z,hd,xs,rel,dd⟩:=Ii I.hok e;obtain⟨w',hw,D_⟩:=oh.some_of (v:=v) (o:=(atKey xs k).map (·.2)) (by rw[l]; exact rel.val k)
  obtain⟨p,hp,hp2⟩:=JQ.mp hw;refine wpAny_getItem_heap (tupleKind_room_in1 hu) (E_ I.hok eb) dd hp ?_;rw[hp2];exact h w' _ (I.tok _) D_
theorem qp{h':Heap}{t':Nat}{ob:HO}(I:Inv X ae σ H s)(mu:Mut (H a))(hs:Heap.SameBut a s.heap h')(he:∃q,h'.get? a=some q)(new:bZ X.prog X.w (upd H a ob) h' a ob) :
  Inv X ae σ (upd H a ob) { s with heap:=h',toks:=t' }:=
 I.write (x:=a) (e:=a) mu (.inl rfl) (fun b q hb z=>(hs.2 b hb).trans z) he new
theorem Fo{P:AC}{w:World}{H':Hp}{h':Heap}{kvs:List (Key×V)}{vs:List (Key×AA)}(z:kvs.length<=sizeLine)(hd:(a==sysModules)=false)(rel:KV kvs vs)(dd:h'.DictOf (dU P w) a vs) :
  bZ P w H' h' a (.dK kvs):=⟨z,hd,vs,rel,dd⟩
theorem Dk{H':Hp}{Q:Unit->AB->Prop}(hu:A.units+1<cLine)(I:Inv X ae σ H s)(g:uw H a y v H')(ry:RelV y u)(rv:RelV v r)(h:∀s',Inv X ae σ H' s'->Q () s') :
  wpAny (model X.prog X.w) A (setItem (.ref a) u r) Q E s:=by
 rcases g with⟨kvs,k,e,ey,l,eH⟩ | ⟨kvs,k,b,e,ey,eb,l,eH⟩
 ·subst ey eH;obtain⟨z,hd,vs,rel,dd⟩:=Ik I.hok e;have hz:vs.length<=sizeLine:=by rw[<- rel.length]; exact z
  have hl:(putK kvs k v).length<=sizeLine:=by have:=iy kvs k v; omega
  refine wpAny_setItem_pairs (hsz:=hz) (zb ry) dd fun h' Xa hs=>h _ ?_;have he:∃q,h'.get? a=some q:=let ⟨q,_,_,hq,_⟩:=Xa; ⟨q,hq⟩;exact qp I (by rw[e]; exact True.intro) hs he (Fo hl hd (rel.put k rv) Xa)
 ·subst ey eH;cases(show u=Value.ref b from ry);obtain⟨z,hd,xs,rel,dd⟩:=adk I.hok e;have hz:xs.length<=sizeLine:=by rw[<- Paired.length rel]; exact z
  have hl:(putK kvs k v).length<=sizeLine:=by have:=iy kvs k v; omega
  refine wpAny_setItem_heap (hsz:=hz) (tupleKind_room_in1 hu) (E_ I.hok eb) dd fun h' Xa hs=>h _ ?_;obtain⟨q,es,ep,hq,h2,h3,h4,_,h5⟩:=Xa;refine qp I (by rw[e]; exact True.intro) hs ⟨q,hq⟩ ⟨hl,hd,_,(rel.put k eb rv).keeps fun c ys ec=>?_,q,es,ep,hq,h2,h3,h4,h5⟩
  rw[aJ (acG ec e (fun z=>nomatch z))]
  exact ec
end
section
variable{X:Cx}{ae:LA}{σ:St}{H:Hp}{s:AB}{a:Addr}{kvs:List (Key×V)}{k:Key}{u:AA}{A:Around}{E:AA->AB->Prop}
end
theorem Il{X:Cx}{ae:LA}{σ:St}{H:Hp}{s:AB}{a:Addr}{y:V}{o:Option V}(I:Inv X ae σ H s)(g:jL H a y o):s.TypeIs (.ref a) "dict" := by
 rcases g with⟨kvs,k,e,_,_⟩ | ⟨kvs,k,b,e,_,_,_⟩
 ·obtain⟨_,_,vs,_,dd⟩:=Ij I.hok e;exact dd.typeIs
 ·obtain⟨_,_,xs,_,dd⟩:=Ii I.hok e;exact dd.typeIs
def X5(td ty tv:TE)(rd:V->V->Hp->VK->Prop):TS:=fun D σ H=>td σ H fun x H1=>ty σ H1 fun y H2=>∃a v,x=.ref a/\jL H2 a y (some v) /\
 tv σ H2 fun y2 H3=>rd v y2 H3 fun z H4=>∃H5,uw H4 a y z H5/\D.nx σ H5
section
variable{X:Cx}{o i e value:Expr}{pos pos' tpos:Pos}{td ty tv:TE}
theorem VR{op:Operator}{rd:V->V->Hp->VK->Prop}(hu:X.A.units+1<cLine)(ho:PE X o td)(hi:PE X i ty)(hv:PE X value tv)(hop:adH X op rd)
  (ha:∀ov iv new,augStore i ov iv new=(do holding [new,ov,iv] (setItem ov iv new); release [new,ov,iv] []; pure .next)):PS X (.AugAssign (.Subscript o i tpos) op value pos) (X5 td ty tv rd):=by
 symm;intro D I h;refine wpAny_AugAssign_SubscriptAny (cT (ho ae s σ H _ I h) fun u s1 ⟨x,H1,I1,rx,q1⟩=>cT (hi ae s1 σ H1 _ I1 q1) fun iv s2 ⟨y,H2,I2,ry,a,v,ex,g,q2⟩=>?_) ha;subst ex;obtain rfl:u=Value.ref a:=rx;refine Dl hu I2 g ry fun w' s3 I3 D_=>cT (hv ae s3 σ H2 _ I3 q2) fun w2 s4 ⟨y2,H3,I4,ry2,q3⟩=>cT (hop ae s4 σ H3 v y2 w' w2 _ I4 D_ ry2 q3) fun w3 s5 qx=>?_;obtain⟨z,H4,I5,rz,H5,g5,q4⟩:=qx;exact Dk hu I5 g5 ry rz fun s6 I6=>⟨σ,H5,I6,q4⟩
end
theorem zE{P:AC}{w:World}{H:Hp}(h:Heap)(hb:sysModules<h.objs.size):bZ P w H (h.push { cls:=.type "dict",data:=.dict #[] }) h.objs.size (.dK []):=
 ⟨gU _,beq_eq_false_iff_ne.mpr (Ne.symm (fG hb)),[],.nil,Heap.DictOf.new h⟩
section
variable{X:Cx}{pos:Pos}
end
structure M1(X:Cx)(o:Expr)(m:Str)(apos:Pos)(e:Expr)(cpos:Pos):Prop where
 base:attributeBase o m X.env (eval o X.env)=eval o X.env
 few:((backTo cpos (starEach [e] X.env)).all (fun x=>!x.1)&&(backToKw cpos (keywordEach [] X.env)).all (fun x=>x.1.isSome)
  && decide (([e]:List Expr).length+([]:List Keyword).length+(if([]:List Keyword).isEmpty then 0 else 1)<30))=true
 line:(apos.endLine==cpos.line)=true
 trees:backTo cpos (starEach [e] X.env)=[(false,eval e X.env)]
structure M2(X:Cx)(o:Expr)(m:Str)(apos:Pos)(e f:Expr)(cpos:Pos):Prop where
 base:attributeBase o m X.env (eval o X.env)=eval o X.env
 few:((backTo cpos (starEach [e,f] X.env)).all (fun x=>!x.1)&&(backToKw cpos (keywordEach [] X.env)).all (fun x=>x.1.isSome)
  && decide (([e,f]:List Expr).length+([]:List Keyword).length+(if([]:List Keyword).isEmpty then 0 else 1)<30))=true
 line:(apos.endLine==cpos.line)=true
 trees:backTo cpos (starEach [e,f] X.env)=[(false,eval e X.env),(false,eval f X.env)]
def IsD(H:Hp)(a:Addr):Prop:=(∃kvs,Rd H a (.dK kvs))\/∃kvs,Rd H a (.dT kvs)
theorem Th{X:Cx}{ae:LA}{σ:St}{H:Hp}{s:AB}{a:Addr}(I:Inv X ae σ H s)(d:IsD H a) :
  s.TypeIs (.ref a) "dict" /\ (∀b,Value.ref a=.ref b->∃ob,s.heap.get? b=some ob/\ob.dict=none)/\(a==sysModules)=false:=by
 rcases d with⟨kvs,e⟩ | ⟨kvs,e⟩
 ·obtain⟨_,hd,vs,_,dd⟩:=Ij I.hok e;refine⟨dd.typeIs,fun b q=>?_,hd⟩;cases q;obtain⟨ob,_,_,h1,h2,_⟩:=dd;exact⟨ob,h1,h2.2.1⟩
 ·obtain⟨_,hd,xs,_,dd⟩:=Ii I.hok e;refine⟨dd.typeIs,fun b q=>?_,hd⟩;cases q;obtain⟨ob,_,_,h1,h2,_⟩:=dd;exact⟨ob,h1,h2.2.1⟩
section
variable{X:Cx}{ae:LA}{σ:St}{H:Hp}{s:AB}{a:Addr}{y d:V}{u r:AA}{o:Option V}{A:Around}{E:AA->AB->Prop}
theorem aaG{Q:AA->AB->Prop}(hu:A.units+1<cLine)(I:Inv X ae σ H s)(g:jL H a y o)(ry:RelV y u)(rd:RelV d r)(h:∀w' s',Inv X ae σ H s'->RelV (o.getD d) w'->Q w' s') :
  wpAny (model X.prog X.w) A (call (.builtin "dict.get") [.ref a,u,r]) Q E s:=by
 rcases g with⟨kvs,k,e,ey,l⟩ | ⟨kvs,k,b,e,ey,eb,l⟩
 ·subst ey;obtain⟨z,hd,vs,rel,dd⟩:=Ij I.hok e;refine call_meetsIn PySem.F.slot_dict_get dd.typeIs PySem.F.entry_dict_get (PySem.F.args_dict_get_3 _ _ _) (meets_dict_get_default (dU X.prog X.w) a (zb ry) hd r) ⟨_,dd.mapOf,h _ _ (I.tok _) ?_⟩;rw[l];exact(rel.val k).getD rd
 ·subst ey;cases(show u=Value.ref b from ry);obtain⟨z,hd,xs,rel,dd⟩:=Ii I.hok e;refine call_meetsIn PySem.F.slot_dict_get dd.typeIs PySem.F.entry_dict_get (PySem.F.args_dict_get_3 _ _ _) (meetsH_dict_get_default (tupleKind (dU X.prog X.w)) a b hd r) ⟨tupleKind_room_in1 hu,k,xs,E_ I.hok eb,dd,h _ _ (I.tok _) ?_⟩;rw[l];exact(rel.val k).getD rd
end
def Ri(td ty tx:TE):TE:=fun σ H Q=>td σ H fun x H1=>∃a,x=.ref a/\IsD H1 a/\ty σ H1 fun y H2=>tx σ H2 fun z H3=>∃o,jL H3 a y o/\Q (o.getD z) H3
section
variable{X:Cx}{o e f:Expr}{apos cpos:Pos}{td ty tx:TE}
theorem Hw(hu:X.A.units+1<cLine)(ho:PE X o td)(he:PE X e ty)(hf:PE X f tx)(m:M2 X o "get" apos e f cpos):PE X (.Call (.Attribute o "get" apos) [e,f] [] cpos) (Ri td ty tx):=by
 symm;intro Q I h;refine wpAny_Call_method m.base m.few m.line PySem.F.plainAttrs_dict PySem.F.slot_dict_get PySem.F.type_dict_get (cT (ho ae s σ H _ I h) fun u s1 qx=>?_);obtain⟨x,H1,I1,rx,a,ex,d,q1⟩:=qx;subst ex;obtain rfl:u=Value.ref a:=rx;obtain⟨t1,t2,_⟩:=Th I1 d;refine⟨t1,t2,?_⟩;rw[m.trees]
 refine Calls.callWith_builtin rfl (Calls.evalArgs_plain (Calls.spliced_cons (cT (he ae s1 σ H1 _ I1 q1) fun iv s2 ⟨y,H2,I2,ry,q2⟩=>
  Calls.spliced_cons (cT (hf ae s2 σ H2 _ I2 q2) fun fv s3 ⟨z,H3,I3,rz,ov,g,q3⟩=>Calls.spliced_nil ?_))))
 exact aaG hu I3 g ry rz fun w' s4 I4 D_=>⟨_,H3,I4,D_,q3⟩
end
section
variable{X:Cx}{ae:LA}{σ:St}{H:Hp}{s:AB}{a:Addr}{kvs:List (Key×V)}{A:Around}{E:AA->AB->Prop}
end
section
variable{X:Cx}{ae:LA}{σ:St}{H:Hp}{s:AB}{a:Addr}{y:V}{u:AA}{A:Around}{E:AA->AB->Prop}
end
end _L
set_option maxHeartbeats 4000000
namespace _L
open PySem PySem.Spec PyProof.Rows
def kj(env:Env)(cs:List (Str×Addr))(y:Str×NameKind):List (Str×Addr):=
 if y.2==.free then(match env.cells.lookup y.1 with | some c=>(y.1,c)::cs | none=>cs) else cs
def rT(sc:Scope)(env:Env):List (Str×Addr):=sc.names.foldl (kj env) []
theorem Im{env:Env}:∀(ns:List (Str×NameKind))(acc:List (Str×Addr)),(∀y c,acc.lookup y=some c->env.cells.lookup y=some c)->∀y c,(ns.foldl (kj env) acc).lookup y=some c->env.cells.lookup y=some c
 | [],acc,h,y,c,e=>h y c e
 | n::ns,acc,h,y,c,e=>by
  refine Im ns (kj env acc n) (fun z d q=>?_) y c e;unfold kj at q;split at q
  ·split at q
   ·rename_i c' hc';rw[rn] at q;split at q
    ·rename_i hz;have hz':z=n.1:=by simpa using hz
     cases q;rw[hz']; exact hc'
    ·exact h z d q
   ·exact h z d q
  ·exact h z d q
theorem je{sc:Scope}{env:Env}{y:Str}{c:Addr}(e:(rT sc env).lookup y=some c):env.cells.lookup y=some c:=
 Im sc.names [] (fun _ _ q=>by simp at q) y c e
theorem N5{env:Env}{y:Str}{c:Addr}(hc:env.cells.lookup y=some c):∀(ns:List (Str×NameKind))(acc:List (Str×Addr)),acc.lookup y=some c->(ns.foldl (kj env) acc).lookup y=some c
 | [],acc,h=>h
 | n::ns,acc,h=>by
  refine N5 hc ns (kj env acc n) ?_;unfold kj;split
  ·split
   ·rename_i c' hc';rw[rn];split
    ·rename_i hz;have hz':y=n.1:=by simpa using hz
     rw[<- hz',hc] at hc';exact hc'.symm
    ·exact h
   ·exact h
  ·exact h
theorem Ky{env:Env}{y:Str}{c:Addr}(hc:env.cells.lookup y=some c):∀(ns:List (Str×NameKind))(acc:List (Str×Addr)),(y,NameKind.free)∈ns->(ns.foldl (kj env) acc).lookup y=some c
 | [],_,h=>by simp at h
 | n::ns,acc,h=>by
  rcases bN.mp h with e | h
  ·subst e;refine N5 hc ns _ ?_;unfold kj;simp[hc]
  ·exact Ky hc ns _ h
theorem vQ{sc:Scope}{env:Env}{x:Str}{k':NameKind}(h:(relabel sc env).names.lookup x=some k'):∃k,(x,k)∈sc.names/\(k'=k\/(k=.free/\k'=.cell)):=by
 have m:=PySem.mem_of_lookup h;unfold relabel at m;obtain⟨⟨n,k⟩,hm,e⟩:=cV.mp m;dsimp only at e;split at e
 ·rename_i hc;injection e with e1 e2
  subst e1;refine⟨k,hm,.inr ⟨?_,e2.symm⟩⟩
  have:(k==NameKind.free)=true:=by
   cases hk:(k==NameKind.free) with
   | true=>rfl
   | false=>rw[hk] at hc; simp at hc
  exact beq_iff_eq.mp this
 ·injection e with e1 e2
  subst e1 e2;exact⟨k,hm,.inl rfl⟩
theorem tu{env:Env}{x:Str}(hf:env.scope.kind=.function)(hk:env.kindOf x=some .cell):∀(ns:List (Str×NameKind)),ns.lookup x=some .free ->
  (ns.map fun(y:Str×NameKind)=>if(y.2==.free&&env.scope.kind==.function&&env.kindOf y.1==some .cell) then(y.1,NameKind.cell) else(y.1,y.2)).lookup x=some .cell
 | [],h=>by simp at h
 | (n,k)::r,h=>by
  have ih:=tu hf hk r;rw[iI];cases hx:x==n with
  | true=>
   have e:x=n:=by simpa using hx
   subst e;simp only[rn,beq_self_eq_true] at h;cases h;dsimp only;rw[aX (by simp[hf,hk])]
   simp[rn]
  | false=>
   simp only[rn,hx] at h;dsimp only;split
   ·simp only[rn,hx]; exact ih h
   ·simp only[rn,hx]; exact ih h
def U6(X:Cx)(N':List Str)(sc:Scope)(fp:List Addr)(s:AB)(H:Hp):Cx where
 prog:=X.prog
 w:=X.w
 K:=X.K
 mg:=X.mg
 base:=X.base
 A:=X.A
 N:=N'
 s₀:=s
 H₀:=H
 env:=compEnvC sc (rT sc X.env) s.heap.objs.size X.env
 outer:=X.stack
 stack:=X.stack
 ex:=fp
 fn:=fun _=>false
 calm:=X.calm
 pn:=[]
 xe:=fun _ _=>False
structure sr(X:Cx)(N':List Str)(js:List Nat)(sc:Scope):Prop where
 kind:sc.kind=.function
 nq:∀y∈sc.names,y.2≠.cell
 names:∀y∈sc.names,y.2=.local->sc.names.lookup y.1=some .local
 clos:closureFor sc X.env=pure (rT sc X.env)
 all:(sc.names.all fun y=>y.2 != .free || (X.env.cells.lookup y.1).isSome)=true
 len:N'.length=js.length+1
 cap:∀(i j:Nat),js[i]?=some j->N'[i+1]?=X.N[j]?
 Uj:∀y∈N'.tail,X.env.kindOf y=some .cell/\sc.names.lookup y=some .free
def bR(js:List Nat)(σ:St):St:=js.map fun j=>(σ[j]?).join
def iw(js:List Nat)(wi:TI)(te:TE):TE:=fun σ H Q=>wi σ H fun J H1=>∀acc,H1 acc=none->∃W:Nat->Nat->List V->Hp->Prop,(∃m,W 0 m [] (upd H1 acc (.lst [])))/\∀i m ys H2,W i m ys H2 ->
 (J.stop i H2/\Q (.ref acc) H2)\/(J.go i H2/\∀x H3,J.Gf i H2 x H3->te (some x::bR js σ) H3 fun y H4=>H4 acc=some (.lst ys)/\ys.length<sizeLine/\∃m',m'<m/\W (i+1) m' (ys++[y]) (upd H4 acc (.lst (ys++[y]))))
def afC:Key->PyData
 | .inl i=>.int i
 | .inr x=>.str x
mutual
def At(H:Hp):PyData->V->Prop
 | .none,v=>v=.non
 | .bool b,v=>v=.bl b
 | .int i,v=>v=.int i
 | .str x,v=>v=.str x
 | .tuple ds,v=>∃a xs,v=.ref a/\H a=some (.tup xs)/\aj H ds xs
 | .list ds,v=>∃a xs,v=.ref a/\H a=some (.lst xs)/\aj H ds xs
 | .dict kvs,v=>∃a es,v=.ref a/\H a=some (.dK es)/\Ge H kvs es
def aj(H:Hp):List PyData->List V->Prop
 | [],xs=>xs=[]
 | d::ds,xs=>∃x r,xs=x::r/\At H d x/\aj H ds r
def Ge(H:Hp):List (PyData×PyData)->List (Key×V)->Prop
 | [],es=>es=[]
 | (k,d)::r,es=>∃q v t,es=(q,v)::t/\k=afC q/\At H d v/\Ge H r t
end
mutual
theorem At.mono{H H':Hp}(m:aL H H'):∀(d:PyData)(v:V),At H d v->At H' d v
 | .none,_,h=>by unfold At at h ⊢; exact h
 | .bool _,_,h=>by unfold At at h ⊢; exact h
 | .int _,_,h=>by unfold At at h ⊢; exact h
 | .str _,_,h=>by unfold At at h ⊢; exact h
 | .tuple ds,v,h=>by
  unfold At at h ⊢;obtain⟨a,xs,e,h1,h2⟩:=h;exact⟨a,xs,e,m _ _ h1,aj.mono m ds xs h2⟩
 | .list ds,v,h=>by
  unfold At at h ⊢;obtain⟨a,xs,e,h1,h2⟩:=h;exact⟨a,xs,e,m _ _ h1,aj.mono m ds xs h2⟩
 | .dict kvs,v,h=>by
  unfold At at h ⊢;obtain⟨a,es,e,h1,h2⟩:=h;exact⟨a,es,e,m _ _ h1,Ge.mono m kvs es h2⟩
theorem aj.mono{H H':Hp}(m:aL H H'):∀(ds:List PyData)(xs:List V),aj H ds xs->aj H' ds xs
 | [],_,h=>by unfold aj at h ⊢; exact h
 | d::ds,xs,h=>by
  unfold aj at h ⊢;obtain⟨x,r,e,h1,h2⟩:=h;exact⟨x,r,e,At.mono m d x h1,aj.mono m ds r h2⟩
theorem Ge.mono{H H':Hp}(m:aL H H'):∀(kvs:List (PyData×PyData))(es:List (Key×V)),Ge H kvs es->Ge H' kvs es
 | [],_,h=>by unfold Ge at h ⊢; exact h
 | (k,d)::r,es,h=>by
  unfold Ge at h ⊢;obtain⟨q,v,t,e,e',h1,h2⟩:=h;exact⟨q,v,t,e,e',At.mono m d v h1,Ge.mono m r t h2⟩
end
theorem aj.length{H:Hp}:∀{ds:List PyData}{xs:List V},aj H ds xs->xs.length=ds.length
 | [],xs,h=>by unfold aj at h; rw[h]; rfl
 | d::ds,xs,h=>by
  unfold aj at h;obtain⟨x,r,e,_,h2⟩:=h;rw[e,fH,fH,aj.length h2]
theorem aj.get{H:Hp}:∀{ds:List PyData}{xs:List V}{i:Nat}{x:V},aj H ds xs->xs[i]?=some x->∃d,ds[i]?=some d/\At H d x
 | [],xs,i,x,h,e=>by unfold aj at h; rw[h] at e; simp at e
 | d::ds,xs,i,x,h,e=>by
  unfold aj at h;obtain⟨y,r,e1,h1,h2⟩:=h;subst e1;cases i with
  | zero=>simp at e; subst e; exact⟨d,rfl,h1⟩
  | succ i=>
   obtain⟨d',q1,q2⟩:=aj.get (i:=i) (x:=x) h2 (by simpa using e)
   exact⟨d',by simpa using q1,q2⟩
theorem aj.append{H:Hp}:∀{ds es:List PyData}{xs ys:List V},aj H ds xs->aj H es ys->aj H (ds++es) (xs++ys)
 | [],es,xs,ys,h,q=>by unfold aj at h; subst h; exact q
 | d::ds,es,xs,ys,h,q=>by
  unfold aj at h;obtain⟨x,r,e,h1,h2⟩:=h;subst e;show aj H (d::(ds++es)) (x::(r++ys));unfold aj;exact⟨x,r++ys,rfl,h1,aj.append h2 q⟩
theorem aj.take{H:Hp}:∀{ds:List PyData}{xs:List V}(n:Nat),aj H ds xs->aj H (ds.take n) (xs.take n)
 | ds,xs,0,h=>by simp[aj]
 | [],xs,n+1,h=>by unfold aj at h; subst h; simp[aj]
 | d::ds,xs,n+1,h=>by
  unfold aj at h;obtain⟨x,r,e,h1,h2⟩:=h;subst e;show aj H (d::ds.take n) (x::r.take n);unfold aj;exact⟨x,_,rfl,h1,aj.take n h2⟩
theorem aj.nil{H:Hp}:aj H [] []:=by unfold aj; rfl
theorem aj.cons{H:Hp}{d:PyData}{ds:List PyData}{x:V}{xs:List V}(h1:At H d x)(h2:aj H ds xs):aj H (d::ds) (x::xs):=by
 unfold aj; exact⟨x,xs,rfl,h1,h2⟩
theorem At.tup{H:Hp}{a:Addr}{xs:List V}{ds:List PyData}(h:H a=some (.tup xs))(q:aj H ds xs):At H (.tuple ds) (.ref a):=by
 unfold At; exact⟨a,xs,rfl,h,q⟩
theorem At.lst{H:Hp}{a:Addr}{xs:List V}{ds:List PyData}(h:H a=some (.lst xs))(q:aj H ds xs):At H (.list ds) (.ref a):=by
 unfold At; exact⟨a,xs,rfl,h,q⟩
theorem At.int{H:Hp}(i:Int):At H (.int i) (.int i):=by unfold At; rfl
theorem At.str{H:Hp}(x:Str):At H (.str x) (.str x):=by unfold At; rfl
theorem At.bool{H:Hp}(b:Bool):At H (.bool b) (.bl b):=by unfold At; rfl
theorem At.non{H:Hp}:At H .none .non:=by unfold At; rfl
theorem aP{H:Hp}{p:Addr}(h:H p=none)(o:HO):aL H (upd H p o):=fun b u q=>by rw[aJ (cB q h)]; exact q
def UT:PyData->String
 | .none=>"NoneType"
 | .bool _=>"bool"
 | .int _=>"int"
 | .str _=>"str"
 | .tuple _=>"tuple"
 | .list _=>"list"
 | .dict _=>"dict"
theorem At.ty{K:Frag}{H:Hp}{d:PyData}{v:V}(h:At H d v):uv K H v (.type (UT d)):=by
 cases d with
 | none=>unfold At at h; subst h; exact .non
 | bool b=>unfold At at h; subst h; exact .bl b
 | int i=>unfold At at h; subst h; exact .int i
 | str x=>unfold At at h; subst h; exact .str x
 | tuple ds=>unfold At at h; obtain⟨a,xs,e,h1,_⟩:=h; subst e; exact .tup h1
 | list ds=>unfold At at h; obtain⟨a,xs,e,h1,_⟩:=h; subst e; exact .lst h1
 | dict ds=>unfold At at h; obtain⟨a,xs,e,h1,_⟩:=h; subst e; exact .dK h1
def isInt:PyData->Bool
 | .int _=>true
 | .bool _=>true
 | _=>false
def isTup:PyData->Bool
 | .tuple _=>true
 | _=>false
def isBool:PyData->Bool
 | .bool _=>true
 | _=>false
def isStr:PyData->Bool
 | .str _=>true
 | _=>false
theorem WR(K:Frag)(d:PyData):kitOne K (.type (UT d)) (.type "int")=some (isInt d):=by cases d <;> kernel_rfl
theorem M5(K:Frag)(d:PyData):kitOne K (.type (UT d)) (.type "tuple")=some (isTup d):=by cases d <;> kernel_rfl
theorem S_(K:Frag)(d:PyData):kitOne K (.type (UT d)) (.type "bool")=some (isBool d):=by cases d <;> kernel_rfl
theorem WQ(K:Frag)(d:PyData):kitOne K (.type (UT d)) (.type "str")=some (isStr d):=by cases d <;> kernel_rfl
section
variable{X:Cx}
def JL(T:String)(f:PyData->Bool):List V->Hp->VK->Prop:=fun vs H Q=>∃v d,vs=[v,.ty T]/\At H d v/\Q (.bl (f d)) H
theorem zf{T:String}{f:PyData->Bool}(hf:∀K d,kitOne K (.type (UT d)) (.type T)=some (f d)):dG X (.builtin "isinstance") (JL T f):=by
 symm;intro vs us Q I r h;obtain⟨v,d,rfl,hv,q⟩:=h;obtain⟨u,t,rfl,ru,rt⟩:=r.two;cases(show t=Value.type T from rt);exact PL I ru (hv.ty (K:=X.K)) (hf X.K d) fun tk=>⟨.bl (f d),H,I.tok tk,rfl,q⟩
theorem WW:dG X (.builtin "isinstance") (JL "int" isInt):=zf WR
theorem Nj:dG X (.builtin "isinstance") (JL "tuple" isTup):=zf M5
theorem Tg:dG X (.builtin "isinstance") (JL "bool" isBool):=zf S_
theorem wZ:dG X (.builtin "isinstance") (JL "str" isStr):=zf WQ
theorem Lp:∀{bs:List Bool}{us:List AA},Vals (bs.map V.bl) us->us=bs.map Value.bool
 | [],_,.nil=>rfl
 | b::bs,_,.cons r t=>by
  cases(show _=Value.bool b from r);rw[Lp t]; rfl
theorem range_all(bs:List Bool):(List.range bs.length).all (fun i=>bs.getD i false)=bs.all id:=by
 rw[Hl,qw,qw];constructor
 ·intro h b hb;obtain⟨i,hi,rfl⟩:=List.mem_iff_getElem.mp hb;have:=h i (List.mem_range.mpr hi);simpa[iV,hi] using this
 ·intro h i hi;have hi':=List.mem_range.mp hi;have:=h bs[i] (tE hi');simpa[iV,hi'] using this
theorem mQ(hc:X.calm=true):dG X (.builtin "all") (fun vs H Q=>∃(p:Addr)(bs:List Bool),vs=[.ref p]/\H p=some (.lst (bs.map V.bl))/\Q (.bl (bs.all id)) H):=by
 symm;intro vs us Q I r h;obtain⟨p,bs,rfl,hp,q⟩:=h;obtain⟨u,rfl,ru⟩:=r.one;cases ru;obtain⟨z,its,n,rv,e⟩:=I.hok p _ hp;have e2:=Lp rv;subst e2;have hl:s.heap.IsList p (bs.map Value.bool).toArray:=⟨_,e,rfl,n,rfl⟩;have lt:p<s.heap.objs.size:=bV e;refine call_all_walk (Ec hl ?_);refine⟨_,_,_,_,_,_,fun i=>bs.getD i false,rfl,Walks.list (A:=X.A.in1) (I.ok.hd hc) _ p (fG lt) _,⟨⟨_,dI _ rfl,rfl,rfl⟩,hl.push _⟩,fun i v s' Q' E' hv hq=>?_,fun h' tk hk=>?_⟩
 ·have hv':(bs.map Value.bool).toArray[i]?=some v:=hv
  have:v=.bool (bs.getD i false):=by
   simp only[List.getElem?_toArray,cM] at hv';cases q:bs[i]? with
   | none=>rw[q] at hv'; simp at hv'
   | some b=>rw[q] at hv'; simp at hv'; simp[iV,q,<- hv']
  rw[this];exact G_ hq
 ·have e3:(List.range (bs.map Value.bool).toArray.size).all (fun i=>bs.getD i false)=bs.all id:=by
   rw[gb,bW]; exact range_all bs
  refine⟨.bl (bs.all id),H,I.kept (t':=tk) (fun b o eb=>?_),by rw[<- e3]; rfl,q⟩
  exact hk b o (by simpa using fG (bV eb)) (eF _ eb)
theorem Hv:∀(ns:List Int),preSum (fun i=>ns.getD i 0) ns.length=ns.sum:=by
 have key:∀(ns:List Int)(k:Nat),k<=ns.length->preSum (fun i=>ns.getD i 0) k=(ns.take k).sum:=by
  intro ns k
  induction k with
  | zero=>intro _; rfl
  | succ k ih=>
   intro hk
   have e:ns.take (k+1)=ns.take k++[ns.getD k 0]:=by
    rw[Cm,dC ∅]
    simp[iV,dC (show k<ns.length by omega)]
   show preSum _ k+ns.getD k 0=_;rw[ih ∅,e,List.sum_append]
   simp
 intro ns;rw[key ns ns.length (bJ _),pH]
theorem Np{ns:List Int}{its:List AA}(r:Vals (ns.map V.int) its){i:Nat}{v:AA}(h:its.toArray[i]?=some v):∃t,v=.int (ns.getD i 0) t:=by
 have h':its[i]?=some v:=by simpa using h
 have hi:i<its.length:=(iY.mp h').1;have hl:=r.length;rw[bW] at hl;obtain⟨u,hu,ru⟩:=r.get (i:=i) (x:=V.int (ns[i]'∅)) (by rw[cM,dC ∅]; rfl)
 rw[h'] at hu;cases hu;obtain⟨t,e⟩:=ru;exact⟨t,by rw[e,iV,dC ∅]; rfl⟩
theorem dB(hc:X.calm=true):dG X (.builtin "sum") (fun vs H Q=>∃(p:Addr)(ns:List Int),vs=[.ref p]/\(H p=some (.lst (ns.map V.int))\/H p=some (.tup (ns.map V.int)))/\Q (.int ns.sum) H):=by
 symm;intro vs us Q I r h;obtain⟨p,ns,rfl,hp,q⟩:=h;obtain⟨u,rfl,ru⟩:=r.one;cases ru
 have fin:∀{h':Heap}{tk:Nat}{t':Tok}{o:Obj},(∀b o',b∉[s.heap.objs.size]->(s.heap.push o).get? b=some o'->h'.get? b=some o')->EP X ae σ Q (.int (preSum (fun i=>ns.getD i 0) ns.length) t') { s with heap:=h',toks:=tk }:=fun {h' tk t' o} hk=>
  ⟨.int ns.sum,H,I.kept (t':=tk) (fun b o' eb=>hk b o' (by simpa using fG (bV eb)) (eF _ eb)),⟨t',by rw[Hv]⟩,q⟩
 rcases hp with hp | hp
 ·obtain⟨z,its,n,rv,e⟩:=I.hok p _ hp;have hl:s.heap.IsList p its.toArray:=⟨_,e,rfl,n,rfl⟩;have lt:p<s.heap.objs.size:=bV e;have hlen:=rv.length;rw[bW] at hlen;refine call_sum_walkG (Ec hl ?_);refine⟨_,_,_,_,_,_,fun i=>ns.getD i 0,rfl,Walks.list (A:=X.A.in1) (I.ok.hd hc) _ p (fG lt) _,⟨⟨_,dI _ rfl,rfl,rfl⟩,hl.push _⟩,fun b hb=>?_,fun i v hv=>Np rv hv,fun h' tk t' hk=>?_⟩
  ·show b<(s.heap.push _).objs.size;rw[iW];rcases bN.mp hb with rfl | hb
   ·exact GR _
   ·rw[iU.mp hb]; exact GZ lt
  ·rw[gb,<- hlen]; exact fin hk
 ·obtain⟨z,its,rv,ht⟩:=I.hok p _ hp;have ht':s.heap.IsTuple p its.toArray:=ht;have lt:p<s.heap.objs.size:=by obtain⟨o,e,_⟩:=ht; exact bV e
  have hlen:=rv.length;rw[bW] at hlen;refine call_sum_walkG (Mr ht' ?_);refine⟨_,_,_,_,_,_,fun i=>ns.getD i 0,rfl,Walks.tuple (A:=X.A.in1) (I.ok.hd hc) _ p (fG lt) _,⟨⟨_,dI _ rfl,rfl,rfl⟩,?_⟩,fun b hb=>?_,fun i v hv=>Np rv hv,fun h' tk t' hk=>?_⟩
  ·obtain⟨o,e,c⟩:=ht';exact⟨o,eF _ e,c⟩
  ·show b<(s.heap.push _).objs.size;rw[iW];rcases bN.mp hb with rfl | hb
   ·exact GR _
   ·rw[iU.mp hb]; exact GZ lt
  ·rw[gb,<- hlen]; exact fin hk
theorem vo:dG X (.type "int") (fun vs H Q=>∃(b:Bool),vs=[.bl b]/\Q (.int (if b then 1 else 0)) H):=by
 symm;intro vs us Q I r h;obtain⟨b,rfl,q⟩:=h;obtain⟨u,rfl,ru⟩:=r.one;cases(show u=Value.bool b from ru);exact call_int_bool ⟨.int (if b then 1 else 0),H,I.tok _,⟨_,rfl⟩,q⟩
end
mutual
theorem pG{P:AC}{w:World}{H:Hp}{h:Heap}(ok:lJ P w H h):∀(d:PyData)(v:V)(u:AA),At H d v->RelV v u->d.hasDict=false->∃as,Reads h u d as
 | .none,v,u,a,r,_=>by unfold At at a; subst a; cases r; exact⟨_,.none⟩
 | .bool b,v,u,a,r,_=>by unfold At at a; subst a; cases r; exact⟨_,.bool b⟩
 | .int i,v,u,a,r,_=>by unfold At at a; subst a; obtain⟨t,rfl⟩:=r; exact⟨_,.int i t⟩
 | .str x,v,u,a,r,_=>by unfold At at a; subst a; obtain⟨t,rfl⟩:=r; exact⟨_,.str x t⟩
 | .tuple ds,v,u,a,r,nd=>by
  unfold At at a;obtain⟨p,xs,e,hp,ha⟩:=a;subst e;cases r;obtain⟨_,its,rv,o,e1,e2,n,e3⟩:=ok p _ hp;obtain⟨as,ra⟩:=uR ok ds xs its ha rv (by simpa[PyData.hasDict] using nd)
  exact⟨_,.tuple e1 e2 e3 (by simpa using ra)⟩
 | .list ds,v,u,a,r,nd=>by
  unfold At at a;obtain⟨p,xs,e,hp,ha⟩:=a;subst e;cases r;obtain⟨_,its,n,rv,e1⟩:=ok p _ hp;obtain⟨as,ra⟩:=uR ok ds xs its ha rv (by simpa[PyData.hasDict] using nd)
  exact⟨_,.list e1 rfl rfl (by simpa using ra)⟩
 | .dict kvs,v,u,a,r,nd=>by simp[PyData.hasDict] at nd
theorem uR{P:AC}{w:World}{H:Hp}{h:Heap}(ok:lJ P w H h):∀(ds:List PyData)(xs:List V)(us:List AA),aj H ds xs->Vals xs us->PyData.hasDictAll ds=false->∃as,ReadsAll h us ds as
 | [],xs,us,a,r,_=>by unfold aj at a; subst a; cases r; exact⟨_,.nil⟩
 | d::ds,xs,us,a,r,nd=>by
  unfold aj at a;obtain⟨x,t,e,h1,h2⟩:=a;subst e;have Ws:d.hasDict=false/\PyData.hasDictAll ds=false:=by simpa[PyData.hasDictAll] using nd
  cases r with
  | cons r1 r2=>
   obtain⟨as,q1⟩:=pG ok d x _ h1 r1 Ws.1;obtain⟨bs,q2⟩:=uR ok ds t _ h2 r2 Ws.2;exact⟨_,.cons q1 q2⟩
end
structure ai1(d:PyData):Prop where
 can:d.showable=true
 nod:d.hasDict=false
 len:d.shown.length<=sizeLine
 dep:d.depth<=60
section
variable{X:Cx}
def Gi(mg:Str->Option AA)(x:Str)(i:Int):Prop:=∃t,mg x=some (.int i t)
theorem El{x:Str}{i:Int}{pos:Pos}(h:Gi X.mg x i)(hg: ~~~(Gl X x))(hd:((x==("__debug__" : Str))=false)⁻¹):PE X (.Name x pos) (tC (.int i)):=by
 obtain⟨t,ht⟩:=h;exact Em hg ht ⟨t,rfl⟩ hd
structure Ct(P:AC)(w:World)(K:Frag)(mg:Str->Option AA)(base:Heap)(k:Nat)(x:Str)(ps:List Str)(sp:Sp) where
 f:Addr
 fd:FuncData
 G:bI P w K mg base gQ k f fd ps sp
 kp:keepIn K (.ref f)=true
 b:Binds K fd ps []
 m:mg x=some (.ref f)
def Ct.mono{P:AC}{w:World}{K:Frag}{mg:Str->Option AA}{base:Heap}{j k:Nat}{x:Str}{ps:List Str}{sp:Sp}(c:Ct P w K mg base j x ps sp)(h:j<=k):Ct P w K mg base k x ps sp:={ c with G:=c.G.mono h }
theorem acy{k:Nat}{x:Str}{ps:List Str}{sp:Sp}{e:Expr}{es:List Expr}{t:TA}{p pos:Pos}(c:Ct X.prog X.w X.K X.mg X.base k x ps sp)(hr:fU k X.A)(ha:PA X (e::es) t)(hg: ~~~(Gl X x))
  (hdb:((x==("__debug__" : Str))=false)⁻¹) (he: ~~~(starEach (e::es) X.env=(false,eval e X.env)::starEach es X.env)) (hpl: ~~~((backTo pos (starEach es X.env)).any (·.1)=false)) :
  PE X (.Call (.Name x p) (e::es) [] pos) (nJ sp [] E0 t):=Mz c.G hr hg c.m c.kp c.b .nil Hx ha hdb he hpl
end
theorem Vy{v:V}{σ:St}{H:Hp}{Q:VK}:qO 0 (some v::σ) H Q=Q v H:=rfl
theorem Vx{i:Nat}{o:Option V}{σ:St}{H:Hp}{Q:VK}:qO (i+1) (o::σ) H Q=qO i σ H Q:=rfl
theorem VF{v:V}{o:Option V}{σ:St}:(o::σ).set 0 (some v)=some v::σ:=rfl
theorem VB{i:Nat}{v:V}{o:Option V}{σ:St}:(o::σ).set (i+1) (some v)=o::σ.set i (some v):=rfl
theorem RL{t:TG}{u:QC}{v:V}{r:List V}{σ:St}{H:Hp}{Q:St->Hp->Prop}:jA t u (v::r) σ H Q=t v σ H fun σ' H'=>u r σ' H' Q:=rfl
theorem VG{σ:St}{H:Hp}{Q:St->Hp->Prop}:Bc [] σ H Q=Q σ H:=rfl
theorem cA{b:Bool}{A B:Prop}(h1:b=true->A)(h2:b=false->B):if b=true then A else B:=by
 cases b
 ·rw[aQ ⋯]; exact h2 rfl
 ·rw[aX rfl]; exact h1 rfl
theorem Zy{i j:Int}{H:Hp}{Q:VK}:rEq (.int i) (.int j) H Q=Q (.bl (decide (i=j))) H:=by
 unfold rEq Ou; simp
theorem Zv{i j:Int}{H:Hp}{Q:VK}:rNe (.int i) (.int j) H Q=Q (.bl (!decide (i=j))) H:=by
 unfold rNe Ou; simp
theorem Zx{i j:Str}{H:Hp}{Q:VK}:rEq (.str i) (.str j) H Q=Q (.bl (decide (i=j))) H:=by
 unfold rEq Ou; simp
theorem Zu{i j:Str}{H:Hp}{Q:VK}:rNe (.str i) (.str j) H Q=Q (.bl (!decide (i=j))) H:=by
 unfold rNe Ou; simp
theorem VH{i:Int}{P:Int->Prop}:(∃k,[V.int i]=[V.int k]/\P k)=P i:=by
 simp
theorem VJ{i:Bool}{P:Bool->Prop}:(∃k,[V.bl i]=[V.bl k]/\P k)=P i:=by
 simp
theorem RM{i j:Int}{P:Int->Int->Prop}:(∃a b,[V.int i,V.int j]=[V.int a,V.int b]/\P a b)=P i j:=by
 refine propext ⟨?_,fun h=>⟨i,j,rfl,h⟩⟩;rintro⟨a,b,e,h⟩;cases e;exact h
theorem Vz{b:Bool}{P:Bool->Prop}:(∃k,V.bl b=V.bl k/\P k)=P b:=by
 simp
theorem Zw{i:Int}{P:Int->Prop}:(∃k,V.int i=V.int k/\P k)=P i:=by
 simp
theorem acg{i j:Int}{P:Int->Int->Prop}:(∃a b,V.int i=V.int a/\V.int j=V.int b/\P a b)=P i j:=by
 simp
theorem v9{α β:Type}{g:β->α->β}{f:α->β->Sem (ForInStep β)}:∀(l:List α)(c:β),(∀x∈l,∀c,f x c=pure (.yield (g c x)))->forIn l c f=(pure (l.foldl g c):Sem β)
 | [],c,_=>rfl
 | x::l,c,h=>by
  rw[GK,h x iK c,pure_bind];exact v9 l (g c x) fun y hy=>h y (jb _ hy)
theorem kh{sc:Scope}{env:Env}(h:(sc.names.all fun y=>y.2 != .free || (env.cells.lookup y.1).isSome)=true):closureFor sc env=pure (rT sc env):=by
 unfold closureFor rT;dsimp only;rw[v9 (g:=kj env) sc.names [] (fun y hy c=>?_)]
 ·rfl
 obtain⟨n,k⟩:=y;have a:=qw.mp h _ hy;dsimp only;unfold kj;dsimp only;cases hk:(k==NameKind.free) with
 | false=>simp
 | true=>
  have hk':k=.free:=beq_iff_eq.mp hk;subst hk';have a':(env.cells.lookup n).isSome=true:=by simpa using a
  obtain⟨c',hc'⟩:=O1.mp a';simp[cellOf,hc']
theorem pM{sc:Scope}(h:(sc.names.all fun y=>y.2 != .local || sc.names.lookup y.1==some .local)=true):∀y∈sc.names,y.2=.local->sc.names.lookup y.1=some .local:=fun y hy e=>by
 have a:=qw.mp h y hy;rw[e] at a;simpa using a
theorem sr.Wy{X:Cx}{x:Str}{sc:Scope}(k: ~~~(sc.kind=.function))(n: autoParam ((sc.names.all fun y=>y.2 != .cell&&y.2 != .free)=true) zh._auto_1)(l: autoParam ((sc.names.all fun y=>y.2 != .local || sc.names.lookup y.1==some .local)=true) zh._auto_1):sr X [x] [] sc:=by
 have n':∀y∈sc.names,y.2≠.cell/\y.2≠.free:=fun y hy=>by have:=qw.mp n y hy; simpa using this
 have al:(sc.names.all fun y=>y.2 != .free || (X.env.cells.lookup y.1).isSome)=true:=qw.mpr fun y hy=>by simp[(n' y hy).2]
 exact⟨k,fun y hy=>(n' y hy).1,pM l,kh al,al,rfl,fun i j h=>by simp at h,fun y h=>by simp at h⟩
theorem sr.mk1{X:Cx}{x y:Str}{sc:Scope}{j:Nat}(hj: ~~~(X.N[j]?=some y))(k: ~~~(sc.kind=.function))(n: autoParam ((sc.names.all fun y=>y.2 != .cell)=true) zh._auto_1)
  (l: autoParam ((sc.names.all fun y=>y.2 != .local || sc.names.lookup y.1==some .local)=true) zh._auto_1) (al: ~~~((sc.names.all fun y=>y.2 != .free || (X.env.cells.lookup y.1).isSome)=true))
  (k1: ~~~(X.env.kindOf y=some .cell)) (k2: ~~~(sc.names.lookup y=some .free)):sr X [x,y] [j] sc:=by
 have n':∀y∈sc.names,y.2≠.cell:=fun y hy=>by have:=qw.mp n y hy; simpa using this
 refine⟨k,n',pM l,kh al,al,rfl,fun i j' h=>?_,fun z h=>?_⟩
 ·cases i with
  | zero=>simp at h; subst h; exact hj.symm
  | succ i=>simp at h
 ·have e:z=y:=by simpa using h
  subst e; exact⟨k1,k2⟩
theorem sr.mk2{X:Cx}{x y z:Str}{sc:Scope}{j j2:Nat}(hj: ~~~(X.N[j]?=some y))(hj2: ~~~(X.N[j2]?=some z))(k: ~~~(sc.kind=.function))(n: autoParam ((sc.names.all fun y=>y.2 != .cell)=true) zh._auto_1)
  (l: autoParam ((sc.names.all fun y=>y.2 != .local || sc.names.lookup y.1==some .local)=true) zh._auto_1) (al: ~~~((sc.names.all fun y=>y.2 != .free || (X.env.cells.lookup y.1).isSome)=true))
  (k1: ~~~(X.env.kindOf y=some .cell)) (k2: ~~~(sc.names.lookup y=some .free)) (k3: ~~~(X.env.kindOf z=some .cell)) (k4: ~~~(sc.names.lookup z=some .free)):sr X [x,y,z] [j,j2] sc:=by
 have n':∀y∈sc.names,y.2≠.cell:=fun y hy=>by have:=qw.mp n y hy; simpa using this
 refine⟨k,n',pM l,kh al,al,rfl,fun i j' h=>?_,fun v h=>?_⟩
 ·match i,h with
  | 0,h=>simp at h; subst h; exact hj.symm
  | 1,h=>simp at h; subst h; exact hj2.symm
  | i+2,h=>simp at h
 ·have e:v=y\/v=z:=by simpa using h
  rcases e with e | e
  ·subst e; exact⟨k1,k2⟩
  ·subst e; exact⟨k3,k4⟩
def b7:Expr->Bool
 | .Starred _ _=>false
 | _=>true
theorem cC{env:Env}{e:Expr}{es:List Expr}(h:b7 e=true):starEach (e::es) env=(false,eval e env)::starEach es env:=by
 cases e <;> first | rfl | exact absurd h (by simp[b7])
theorem cL{env:Env}{pos:Pos}:∀{es:List Expr},es.all b7=true->(backTo pos (starEach es env)).any (·.1)=false
 | [],_=>rfl
 | e::es,h=>by
  have h':b7 e=true/\es.all b7=true:=by simpa using h
  rw[cC h'.1];show(false || (backTo pos (starEach es env)).any (·.1))=false;rw[cL h'.2]; rfl
section
variable{X:Cx}{x:Str}{p pos:Pos}{e:Expr}{es:List Expr}{te:TE}{t:TA}{id T:String}{r:List V->Hp->VK->Prop}
theorem ao(ha:PE X e te)(hr:PA X es t)(h: ~~~(b7 e=true)):PA X (e::es) (sH te t):=Wi ha hr (cC h)
theorem pf{k:Nat}{ps:List Str}{sp:Sp}(c:Ct X.prog X.w X.K X.mg X.base k x ps sp)(hr:fU k X.A)(ha:PA X (e::es) t)(hg: ~~~(Gl X x))(hdb:((x==("__debug__" : Str))=false)⁻¹)(h1: ~~~(b7 e=true))(h2: ~~~(es.all b7=true)) :
  PE X (.Call (.Name x p) (e::es) [] pos) (nJ sp [] E0 t):=acy c hr ha hg hdb (cC h1) (cL h2)
theorem pb(hc:dG X (.builtin id) r)(hm:X.mg x=none)(hv:bootBuiltins x=some (.builtin id))(ha:PA X (e::es) t)(hg: ~~~(Gl X x))(hn:(x ≠ "__name__")⁻¹)(hdb:((x==("__debug__" : Str))=false)⁻¹)
  (h1: ~~~(b7 e=true)) (h2: ~~~(es.all b7=true)):PE X (.Call (.Name x p) (e::es) [] pos) (tCB r t):=Sg hc hg hm hv ha hn hdb (cC h1) (cL h2)
theorem pt(hc:dG X (.type T) r)(hm:X.mg x=none)(hv:bootBuiltins x=some (.type T))(ha:PA X (e::es) t)(hg: ~~~(Gl X x))(hn:(x ≠ "__name__")⁻¹)(hdb:((x==("__debug__" : Str))=false)⁻¹)
  (h1: ~~~(b7 e=true)) (h2: ~~~(es.all b7=true)):PE X (.Call (.Name x p) (e::es) [] pos) (tCB r t):=O4 hc hg hm hv ha hn hdb (cC h1) (cL h2)
end
end _L
namespace HT
open PySem PyProof.Rows
section
variable{prog:AC}{w:World}{A:Around}{E:AA->AB->Prop}{s:AB}
theorem tU{t sl:Addr}{items:Array AA}{vl vu:AA}{lo hi:Option Int}{Q:AA->AB->Prop}(ht:IsTup s.heap t items)(hs:s.heap.IsSliceOf sl vl vu .none)(pl:IsPart vl lo)(pu:IsPart vu hi)
  (hw1:ie items.size 0 lo=0) (hw2:ie items.size items.size hi=items.size) (h:Q (.ref t) s):wpAny (model prog w) A (getItem (.ref t) (.ref sl)) Q E s:=by
 obtain⟨os,hos,hcs,hds⟩:=id hs;have tyS:s.TypeIs (.ref sl) "slice" := ⟨os,hos,hcs⟩;unfold getItem
 try with_reducible refine jX ?_
 first | refine bh (cH ?_) | skip
 refine bh (wpAny_sequenceKey ht.typeIs ⋯ ?_)
 refine bh (Hd (name:=Str.ofString "__getitem__") ht.typeIs PyProof.Rows.slot_tuple_getitem (Ah PyProof.Rows.slot_tuple_getitem ht.typeIs entry_tuple_getitem ?_ (args_tuple_getitem _ _)));show wpAny _ _ (Builtin.Tuple.tupleItemsOf (.ref t) >>= _) _ _ s;refine bh (tupleItemsOf_ ht ?_);refine bh (yx tyS ?_);rw[aX ⋯]
 refine bh (mH hs pl pu ?_)
 have yes:(((ie items.size 0 lo:Nat):Int)==0&&(1:Int)==1&&(ie items.size items.size hi-ie items.size 0 lo)==items.size)=true:=by
  rw[hw1,hw2]; simp
 show wpAny _ _ (if(((ie items.size 0 lo:Nat):Int)==0&&(1:Int)==1&&(ie items.size items.size hi-ie items.size 0 lo)==items.size)=true then _ else _) _ _ s
 rw[aX yes]
 have ex:∀{R:Bool->AB->Prop},R true s->wpAny (model prog w) A.in1 (Builtin.Tuple.tupleIsExact (.ref t)) R E s:=fun {R} q=>by
  unfold Builtin.Tuple.tupleIsExact;refine bh (yx ht.typeIs (cH ?_));rw[beq_self_eq_true];exact q
 refine bh (ex ?_);rw[aX rfl];exact bh (Ae (cH ⟨_,rfl,cH h⟩))
end
end HT
namespace _L
open PySem PySem.Spec PyProof.Rows
theorem cu:bootBuiltins "isinstance" = some (.builtin "isinstance"):=by decide +kernel
theorem fQ:bootBuiltins "len" = some (.builtin "len"):=by decide +kernel
theorem zU:bootBuiltins "all" = some (.builtin "all"):=by decide +kernel
theorem jg:bootBuiltins "sum" = some (.builtin "sum"):=by decide +kernel
theorem Us:bootBuiltins "abs" = some (.builtin "abs"):=by decide +kernel
theorem iR:bootBuiltins "min" = some (.builtin "min"):=by decide +kernel
theorem kZ:bootBuiltins "max" = some (.builtin "max"):=by decide +kernel
theorem FP:bootBuiltins "int" = some (.type "int"):=by decide +kernel
theorem FN:bootBuiltins "str" = some (.type "str"):=by decide +kernel
theorem Xk:bootBuiltins "bool" = some (.type "bool"):=by decide +kernel
theorem jK:bootBuiltins "list" = some (.type "list"):=by decide +kernel
theorem gW:bootBuiltins "tuple" = some (.type "tuple"):=by decide +kernel
theorem N8:bootBuiltins "dict" = some (.type "dict"):=by decide +kernel
theorem Ur:bootBuiltins "range" = some (.type "range"):=by decide +kernel
theorem FQ:bootBuiltins "enumerate" = some (.type "enumerate"):=by decide +kernel
theorem K_:bootBuiltins "zip" = some (.type "zip"):=by decide +kernel
section
variable{X:Cx}
theorem pty{x:Str}{T:String}{pos:Pos}(hg:Gl X x)(hm:X.mg x=none)(hv:bootBuiltins x=some (.type T))(hn:(x ≠ "__name__")⁻¹)(hd:((x==("__debug__" : Str))=false)⁻¹):PE X (.Name x pos) (tC (.ty T)):=
 Wg (v:=.ty T) hg hm hv rfl hn hd
theorem Jh.of{T:String}{g:PyData->Bool}{v:V}{d:PyData}{H:Hp}{Q:VK}(h:At H d v)(q:Q (.bl (g d)) H):JL T g [v,.ty T] H Q:=⟨v,d,rfl,h,q⟩
def ae9(K:Frag):List V->Hp->VK->Prop:=fun vs H Q=>∃(p:Addr)(ys:List V),vs=[.ref p]/\(cG K H p ys\/eX K H p ys)/\Q (.int ys.length) H
theorem cX{K:Frag}(hK:X.K=K):dG X (.builtin "len") (ae9 K):=by
 subst hK;exact Fv
def ae4:V->Option Int->Option Int->Hp->VK->Prop:=fun x lo hi H Q=>∃(a:Addr)(xs:List V),x=.ref a/\H a=some (.tup xs)/\∀p H',aL H H'->H' p=some (.tup (rQ xs lo hi))->Q (.ref p) H'
theorem gY:SlR X ae4:=by
 symm;intro x v vl vu lo hi sl Q I rx hs pl pu h;obtain⟨a,xs,e,hx,q⟩:=h;by_cases hw:HT.ie xs.length 0 lo=0/\HT.ie xs.length xs.length hi=xs.length
 ·subst e;cases rx;obtain⟨its,r,ht,hz⟩:=I.tuple (eX.of (K:=X.K) hx);have hlen:its.toArray.size=xs.length:=by rw[gb]; exact r.length.symm
  refine⟨"tuple",_,PyProof.Rows.slot_tuple_getitem.lookup,ht.typeIs,?_⟩;refine HT.tU ht hs pl pu (by rw[hlen]; exact hw.1) (by rw[hlen]; exact hw.2) ⟨.ref a,H,I,rfl,q a H (aL.refl H) ?_⟩
  rw[hx];unfold rQ;rw[hw.1,hw.2,Hi,Nat.sub_zero,pH]
 ·exact Zm ae s σ H x v vl vu lo hi sl Q I rx hs pl pu ⟨a,xs,e,eX.of hx,hw,fun p hp=>q p _ (aP hp _) aB⟩
def acu:R2:=fun x y H Q=>∃(a b:Addr)(xs ys:List V),x=.ref a/\y=.ref b/\H a=some (.tup xs)/\H b=some (.tup ys)/\xs.length+ys.length<=sizeLine/\∀p H',aL H H'->H' p=some (.tup (xs++ys))->Q (.ref p) H'
theorem lC:ou X (binaryOp .Add) acu:=by
 symm;intro x y v u Q I rx ry h;obtain⟨a,b,xs,ys,e1,e2,ha,hb,hz,q⟩:=h;by_cases hx:xs=[]
 ·subst hx e1 e2;cases rx;cases ry;obtain⟨its,r1,p1,_⟩:=I.tuple (eX.of (K:=X.K) ha);obtain⟨its2,r2,p2,_⟩:=I.tuple (eX.of (K:=X.K) hb);cases r1;obtain⟨⟨cls,dd,data,sl⟩,ho,hc,n,hd⟩:=id p1;obtain⟨⟨cls2,dd2,data2,sl2⟩,ho2,hc2,n2,hd2⟩:=id p2;simp only at hc hd hc2 hd2;subst hc hd hc2 hd2;exact concat_meets ⟨_,ho,rfl⟩ ⟨_,ho2,rfl⟩ noFill_tuple_add seq_tuple_add PySem.F.slot_tuple_add PySem.F.entry_tuple_add (PySem.F.args_tuple_add_2 _ _) (tuple_addW0 a b _ _ n n2 dd dd2 sl sl2 (by rfl)) ⟨ho,ho2,⟨.ref b,H,I,rfl,q b H (aL.refl H) hb⟩⟩
 ·refine Wl ae s σ H x y v u Q I rx ry ⟨a,b,xs,ys,e1,e2,eX.of ha,eX.of hb,hx,hz,fun z=>?_,fun _ p hp=>q p _ (aP hp _) aB⟩;subst z;exact q a H (aL.refl H) (by rw[ha,q_])
def GJ:R2:=fun x y H Q=>∃(p:Addr)(xs:List V)(i:Int)(v:V),x=.ref p/\y=.int i/\(H p=some (.lst xs)\/H p=some (.tup xs))/\zV xs i=some v/\Q v H
theorem aZ:QR X GJ:=by
 have h:=(M_ (X:=X)).or aam;refine .mk ?_;intro a b ae s σ H x y v u Q I rx ry q;obtain⟨p,xs,i,z,e1,e2,hp,ha,q⟩:=q;intro hs;refine h a b ae s σ H x y v u Q I rx ry ?_ hs;rcases hp with hp | hp
 ·exact .inl ⟨p,xs,i,z,e1,e2,cG.of hp,ha,q⟩
 ·exact .inr ⟨p,xs,i,z,e1,e2,eX.of hp,ha,q⟩
theorem Ix.tup{a:Addr}{xs:List V}{i:Int}{v:V}{H:Hp}{Q:VK}(h:H a=some (.tup xs))(e:zV xs i=some v)(q:Q v H):GJ (.ref a) (.int i) H Q:=⟨a,xs,i,v,rfl,rfl,.inr h,e,q⟩
theorem Ix.lst{a:Addr}{xs:List V}{i:Int}{v:V}{H:Hp}{Q:VK}(h:H a=some (.lst xs))(e:zV xs i=some v)(q:Q v H):GJ (.ref a) (.int i) H Q:=⟨a,xs,i,v,rfl,rfl,.inl h,e,q⟩
theorem Ug{js:List Nat}{ta:TA}{te:TE}{σ:St}{H:Hp}{Q:VK}{n:Nat}(hl:∀R:List V->Hp->Prop,R [.int n] H->ta σ H R)(hn:n<=1000000)
  (h:∀acc,H acc=none->∃Pv:Nat->List V->Hp->Prop,Pv 0 [] (upd H acc (.lst [])) /\
   (∀i ys H',i<n->Pv i ys H'->te (some (.int (0+(i:Nat)))::bR js σ) H' fun y bO=>bO acc=some (.lst ys)/\ys.length<sizeLine/\Pv (i+1) (ys++[y]) (upd bO acc (.lst (ys++[y])))) /\
   ∀ys H',Pv n ys H'->Q (.ref acc) H'):iw js (zj ta) te σ H Q:=by
 refine hl _ ⟨n,rfl,∅,∅,fun acc hacc=>?_⟩
 obtain⟨Pv,h0,hs,hd⟩:=h acc hacc;have en:((n:Int)).toNat=n:=rB n;rw[en];refine⟨fun i m ys H'=>m=n-i/\i<=n/\Pv i ys H',⟨n,rfl,gU _,h0⟩,?_⟩;rintro i m ys H2 ⟨rfl,hi,p⟩;by_cases hlt:i<n
 ·refine .inr ⟨hlt,fun x H3 y=>?_⟩;obtain⟨e,y⟩:=y;subst e y;have Xp:=hs i ys _ hlt p
  have fe:(fun(y:V)(bO:Hp)=>bO acc=some (.lst ys)/\ys.length<sizeLine/\Pv (i+1) (ys++[y]) (upd bO acc (.lst (ys++[y]))))=fun y H4=>H4 acc=some (.lst ys)/\ys.length<sizeLine/\∃m',m'<n-i/\(m'=n-(i+1)/\i+1<=n/\Pv (i+1) (ys++[y]) (upd H4 acc (.lst (ys++[y])))):=by
   funext y bO
   refine propext ⟨fun⟨a,b,c⟩=>⟨a,b,_,∅,rfl,hlt,c⟩,fun⟨a,b,m',_,_,_,c⟩=>⟨a,b,c⟩⟩
  rw[fe] at Xp;exact Xp
 ·have e:i=n:=by omega
  subst e;exact .inl ⟨bJ _,hd ys _ p⟩
theorem jf:dG X (.type "tuple") (fun vs H Q=>∃(p:Addr)(ys:List V),vs=[.ref p]/\H p=some (.lst ys)/\∀l,H l=none->Q (.ref l) (upd H l (.tup ys))):=by
 symm;intro vs us Q I r h;obtain⟨p,ys,e,hp,q⟩:=h;exact Be ae s σ H vs us Q I r ⟨p,ys,e,.inl ⟨cG.of hp,q⟩⟩
theorem vh:dG X (.type "list") (fun vs H Q=>∃(p:Addr)(ys:List V),vs=[.ref p]/\H p=some (.tup ys)/\∀l,H l=none->Q (.ref l) (upd H l (.lst ys))):=by
 symm;intro vs us Q I r h;obtain⟨p,ys,e,hp,q⟩:=h;exact uf ae s σ H vs us Q I r ⟨p,ys,e,.inr (eX.of hp),q⟩
theorem Yn{ta:TA}{g:TG}{tb:TS}{D:Ends}{σ:St}{H:Hp}{n:Nat}(hl:∀R:List V->Hp->Prop,R [.int n] H->ta σ H R)(hn:n<=1000000)(Pv:Nat->St->Hp->Prop)(h0:Pv 0 σ H)
  (hs:∀i σ H,i<n->Pv i σ H->g (.int (0+(i:Nat))) σ H fun σ2 H2=>tb { D with nx:=Pv (i+1),ct:=Pv (i+1),bk:=D.nx } σ2 H2) (hd:∀σ H,Pv n σ H->D.nx σ H):Jt (zj ta) g tb D σ H:=by
 refine hl _ ⟨n,rfl,∅,∅,?_⟩
 rw[rB];exact Df Pv h0 hs hd
def XD(t:TA):TE:=fun σ H Q=>t σ H fun xs H1=>xs.length<=sizeLine/\∀p H',H1 p=none->aL H1 H'->H' p=some (.lst xs)->Q (.ref p) H'
def Xr(t:TA):TE:=fun σ H Q=>t σ H fun xs H1=>xs.length<=sizeLine/\∀p H',H1 p=none->aL H1 H'->H' p=some (.tup xs)->Q (.ref p) H'
theorem bF{es:List Expr}{t:TA}{pos:Pos}(h:PA X es t):PE X (.List es pos) (XD t):=by
 symm;intro Q I hq;refine wpAny_List_spliced (cT (h pos ae s σ H _ I hq) fun us s1 ⟨xs,H1,I1,r,z,q⟩=>⟨by rw[<- r.length]; exact z,?_⟩)
 have fr:H1 s1.heap.objs.size=none:=I1.hok.fresh (bJ _);exact⟨.ref s1.heap.objs.size,upd H1 s1.heap.objs.size (.lst xs),I1.laid (t':=s1.toks) (fun b u e=>eF _ e) (bJ _) ⟨z,us,0,r,dI _ rfl⟩,rfl,q _ _ fr (aP fr _) aB⟩
theorem bx{es:List Expr}{t:TA}{x1}{pos:Pos}(h:PA X es t):PE X (.Tuple es x1 pos) (Xr t):=by
 symm;intro Q I hq;refine wpAny_Tuple_spliced (cT (h pos ae s σ H _ I hq) fun us s1 ⟨xs,H1,I1,r,z,q⟩=>⟨by rw[<- r.length]; exact z,?_⟩)
 have fr:H1 s1.heap.objs.size=none:=I1.hok.fresh (bJ _);exact⟨.ref s1.heap.objs.size,upd H1 s1.heap.objs.size (.tup xs),I1.laid (t':=s1.toks) (fun b u e=>eF _ e) (bJ _) ⟨z,us,r,⟨_,dI _ rfl,rfl,_,rfl⟩⟩,rfl,q _ _ fr (aP fr _) aB⟩
def hid(a:Addr)(H:Hp):Hp:=fun b=>if b=a then none else H b
theorem cP{a b:Addr}{H:Hp}(h:b≠a):hid a H b=H b:=aQ h
theorem pU{a:Addr}{H:Hp}:hid a H a=none:=aX rfl
theorem iM{a b:Addr}{H:Hp}{o:HO}(h:hid a H b=some o):b≠a/\H b=some o:=by
 by_cases e:b=a
 ·subst e; rw[pU] at h; cases h
 ·exact⟨e,by rw[cP e] at h; exact h⟩
theorem nC{a:Addr}{H:Hp}{o:HO}:hid a (upd H a o)=hid a H:=by
 funext b
 by_cases e:b=a
 ·subst e; rw[pU,pU]
 ·rw[cP e,cP e,aJ e]
theorem dD{a p:Addr}{H:Hp}{o:HO}(h:p≠a):hid a (upd H p o)=upd (hid a H) p o:=by
 funext b
 by_cases e:b=a
 ·subst e; rw[pU,aJ (Ne.symm h),pU]
 ·rw[cP e];by_cases e':b=p
  ·subst e'; rw[aB,aB]
  ·rw[aJ e',aJ e',cP e]
theorem jH{a:Addr}{H:Hp}:aL (hid a H) H:=fun b o h=>(iM h).2
def SX(a:Addr)(H H':Hp):Prop:=aL (hid a H) (hid a H')
theorem SX.refl(a:Addr)(H:Hp):SX a H H:=aL.refl _
theorem SX.trans{a:Addr}{H H1 H2:Hp}(x:SX a H H1)(y:SX a H1 H2):SX a H H2:=aL.trans x y
theorem SX.of{a:Addr}{H H':Hp}(s:aL H H'):SX a H H':=fun b o h=>by
 obtain⟨n,e⟩:=iM h;rw[cP n]; exact s _ _ e
theorem SX.upd{a:Addr}{H:Hp}{o:HO}:SX a H (upd H a o):=by unfold SX; rw[nC]; exact aL.refl _
theorem SX.get{a b:Addr}{H H':Hp}{o:HO}(s:SX a H H')(n:b≠a)(h:H b=some o):H' b=some o:=by
 have:=s b o (by rw[cP n]; exact h)
 exact(iM this).2
def Tp(H:Hp)(a:Addr)(n:Nat):Prop:=∃x y z:Int,H a=some (.lst [.int x,.int y,.int z])/\0<=x/\0<=y/\y<4611686018427387904/\0<=z/\z<=n
theorem Tp.mono{H:Hp}{a:Addr}{n m:Nat}(h:Tp H a n)(l:n<=m):Tp H a m:=by
 obtain⟨x,y,z,e,h1,h2,h3,h4,h5⟩:=h;exact⟨x,y,z,e,h1,h2,h3,h4,∅⟩
theorem Tp.same{H H':Hp}{a:Addr}{n:Nat}(h:Tp H a n)(s:aL H H'):Tp H' a n:=by
 obtain⟨x,y,z,e,r⟩:=h;exact⟨x,y,z,s _ _ e,r⟩
theorem Tp.ne{H:Hp}{a b:Addr}{n:Nat}(h:Tp H a n)(e:H b=none):b≠a:=by
 obtain⟨x,y,z,q,_⟩:=h;intro z; subst z; rw[e] at q; cases q
theorem Tp.neT{H:Hp}{a b:Addr}{n:Nat}{xs:List V}(h:Tp H a n)(e:H b=some (.tup xs)):b≠a:=by
 obtain⟨x,y,z,q,_⟩:=h;intro z; subst z; rw[e] at q; cases q
theorem aL.hid{a:Addr}{H H':Hp}(s:aL H H'):aL (_L.hid a H) (_L.hid a H'):=fun b o h=>by
 obtain⟨n,e⟩:=iM h;rw[cP n]; exact s _ _ e
theorem SX.eZ{a p:Addr}{H H':Hp}{o:HO}(s:SX a H H')(hp:H p=none)(pa:p≠a):SX a H (_L.upd H' p o):=fun b u h=>by
 obtain⟨n,e⟩:=iM h;rw[dD pa,aJ (cB e hp)];exact s b u h
theorem Tp.eZ{H:Hp}{a p:Addr}{n:Nat}{o:HO}(t:Tp H a n)(pa:p≠a):Tp (_L.upd H p o) a n:=by
 obtain⟨x,y,z,e,r⟩:=t;exact⟨x,y,z,by rw[aJ (Ne.symm pa)]; exact e,r⟩
def U9(K:Frag)(H:Hp)(p:Addr)(xs:List V):Prop:=(∃o,H p=some (.tW o (.lst xs))) \/
 ∃(o:Obj)(its:Array AA)(n:Nat),K.lookup p=some o/\o.cls=.type "list" /\ o.dict=none/\o.data=.seq its n/\its.size<=sizeLine/\Vals xs its.toList
theorem U9.sq{K:Frag}{H:Hp}{p:Addr}{xs:List V}(h:U9 K H p xs):cG K H p xs:=by
 rcases h with⟨o,h⟩ | h
 ·exact .inl (.inr ⟨o,h⟩)
 ·exact .inr h
theorem U9.of{K:Frag}{H:Hp}{p:Addr}{xs:List V}(h:cG K H p xs)(o:Only H):U9 K H p xs:=by
 rcases h with(h | h) | h
 ·rcases o p with e | ⟨ob,ys,e⟩
  ·rw[e] at h; cases h
  ·rw[e] at h; cases h
 ·exact .inl h
 ·exact .inr h
theorem U9.same{K:Frag}{H H':Hp}{p:Addr}{xs:List V}(h:U9 K H p xs)(s:aL H H'):U9 K H' p xs:=by
 rcases h with⟨o,h⟩ | h
 ·exact .inl ⟨o,s _ _ h⟩
 ·exact .inr h
end
mutual
def fine(b:Nat):PyData->Bool
 | .none=>true
 | .bool _=>true
 | .int i=>decide (i.natAbs<=b)
 | .str x=>decide (x.length<=40)&&x.cps.toList.all fun c=>decide (c<4294967296)
 | .tuple ds=>Fj b ds
 | .list ds=>Fj b ds
 | .dict _=>false
def Fj(b:Nat):List PyData->Bool
 | []=>true
 | d::ds=>fine b d&&Fj b ds
end
mutual
def acJ:PyData->Nat
 | .tuple ds=>wY ds+3
 | .list ds=>wY ds+3
 | .dict _=>500
 | .none=>500
 | .bool _=>500
 | .int _=>500
 | .str _=>500
def wY:List PyData->Nat
 | []=>0
 | d::ds=>acJ d+2+wY ds
end
structure amJ(b D M:Nat)(d:PyData):Prop where
 f:fine b d=true
 dp:d.depth<=D
 m:acJ d<=M
structure aez(b D M:Nat)(ds:List PyData):Prop where
 f:∀d∈ds,fine b d=true
 dp:∀d∈ds,d.depth<=D
 m:wY ds<=M
section
variable{X:Cx}
end
theorem vg{xs:List V}{i:Int}(h:0<=i):rQ xs none (some i)=xs.take i.toNat:=by
 obtain⟨j,rfl⟩:∃j:Nat,i=j:=⟨i.toNat,∅⟩
 unfold rQ;rw[HT.GD,HT.Mh,Hi,Nat.sub_zero,rB];by_cases q:j<=xs.length
 ·rw[Nat.min_eq_left q]
 ·rw[Nat.min_eq_right ∅,pH,RQ ∅]
theorem pX{xs:List V}{i:Int}(h:0<=i):rQ xs (some i) none=xs.drop i.toNat:=by
 obtain⟨j,rfl⟩:∃j:Nat,i=j:=⟨i.toNat,∅⟩
 unfold rQ;rw[HT.GD,HT.Mh,rB];by_cases q:j<=xs.length
 ·rw[Nat.min_eq_left q,RQ (by rw[wz]; omega)]
 ·rw[Nat.min_eq_right ∅,GQ,List.take_nil,List.drop_of_length_le ∅]
section
variable{X:Cx}
def DQ:AA->Str
 | .str t _=>t
 | _=>""
theorem JW(hu:X.A.units+64<cLine):ou X (compareOp .NotEq) (fun x y H Q=>∃d e,At H d x/\At H e y/\d.hasDict=false/\e.hasDict=false/\d.canLay0=true/\e.canLay0=true/\d.depth<=60/\Q (.bl (!PyData.eqv d e)) H):=by
 symm;intro x y v u Q I rx ry h;obtain⟨d,e,hd,he,n1,n2,c1,c2,dp,q⟩:=h;obtain⟨as,r1⟩:=pG I.hok _ _ _ hd rx n1;obtain⟨bs,r2⟩:=pG I.hok _ _ _ he ry n2;exact SeqAt.compareNe_reads r1 r2 c1 c2 (by have:=Nat.min_le_left d.depth e.depth; omega) (bT I q rfl)
theorem Su(hu:X.A.units+64<cLine):ou X (compareOp .Eq) (fun x y H Q=>∃d e,At H d x/\At H e y/\d.hasDict=false/\e.hasDict=false/\d.canLay0=true/\e.canLay0=true/\d.depth<=60/\Q (.bl (PyData.eqv d e)) H):=by
 symm;intro x y v u Q I rx ry h;obtain⟨d,e,hd,he,n1,n2,c1,c2,dp,q⟩:=h;obtain⟨as,r1⟩:=pG I.hok _ _ _ hd rx n1;obtain⟨bs,r2⟩:=pG I.hok _ _ _ he ry n2;exact SeqAt.compareEq_reads r1 r2 c1 c2 (by have:=Nat.min_le_left d.depth e.depth; omega) (bT I q rfl)
end
def FK(g:TG)(tb:TS)(D:Ends)(σ:St)(vs:List V)(H1:Hp):Prop:=∃j:Int,vs=[.int j]/\-(2 ^ 62)<=j/\j<2 ^ 62/\∃W:Nat->Nat->St->Hp->Prop,(∃m,W 0 m σ H1)/\∀i m σ H,W i m σ H ->
 ((QS 0 j.toNat).stop i H/\D.nx σ H)\/((QS 0 j.toNat).go i H/\∃N:St->Hp->Prop,(∀σ' H',N σ' H'->∃m',m'<m/\W (i+1) m' σ' H')/\∀x H',(QS 0 j.toNat).Gf i H x H'->g x σ H' fun σ2 H2=>tb { D with nx:=N,ct:=N,bk:=D.nx } σ2 H2)
theorem sE{ta:TA}{g:TG}{tb:TS}{D:Ends}{σ:St}{H:Hp}:Jt (zj ta) g tb D σ H=ta σ H (FK g tb D σ):=rfl
theorem FK.of{g:TG}{tb:TS}{D:Ends}{σ:St}{H:Hp}{n:Nat}{i:Int}(ei:i=n)(hn:n<=1000000)(Pv:Nat->St->Hp->Prop)(h0:Pv 0 σ H)
  (hs:∀i σ H,i<n->Pv i σ H->g (.int (0+(i:Nat))) σ H fun σ2 H2=>tb { D with nx:=Pv (i+1),ct:=Pv (i+1),bk:=D.nx } σ2 H2) (hd:∀σ H,Pv n σ H->D.nx σ H):FK g tb D σ [.int i] H:=by
 subst ei;refine⟨n,rfl,∅,∅,?_⟩
 rw[rB];exact Df Pv h0 hs hd
theorem FK.ofN{g:TG}{tb:TS}{D:Ends}{σ:St}{H:Hp}{n:Nat}{i:Int}(ei:i=n)(hn:n<=1000000)(Pv:Nat->St->Hp->Prop)(h0:Pv 0 σ H)
  (hs:∀i σ H,i<n->Pv i σ H->∀N:St->Hp->Prop,(∀σ' H',Pv (i+1) σ' H'->N σ' H')->g (.int (0+(i:Nat))) σ H fun σ2 H2=>tb { D with nx:=N,ct:=N,bk:=D.nx } σ2 H2) (hd:∀σ H,Pv n σ H->D.nx σ H):FK g tb D σ [.int i] H:=FK.of ei hn Pv h0 (fun i σ H hi p=>hs i σ H hi p _ fun _ _ h=>h) hd
def TK(K:Frag)(g:TG)(tb:TS)(D:Ends)(σ:St)(x:V)(H1:Hp):Prop:=∃a,x=.ref a/\(∃xs,eX K H1 a xs)/\∃W:Nat->Nat->St->Hp->Prop,(∃m,W 0 m σ H1)/\∀i m σ H,W i m σ H ->
 ((YD K a).stop i H/\D.nx σ H)\/((YD K a).go i H/\∃N:St->Hp->Prop,(∀σ' H',N σ' H'->∃m',m'<m/\W (i+1) m' σ' H')/\∀x H',(YD K a).Gf i H x H'->g x σ H' fun σ2 H2=>tb { D with nx:=N,ct:=N,bk:=D.nx } σ2 H2)
theorem Gu{K:Frag}{tl:TE}{g:TG}{tb:TS}{D:Ends}{σ:St}{H:Hp}:Jt (Kl K tl) g tb D σ H=tl σ H (TK K g tb D σ):=rfl
theorem TK.of{K:Frag}{g:TG}{tb:TS}{D:Ends}{σ:St}{H:Hp}{a:Addr}{xs:List V}(ha:H a=some (.tup xs))(Pv:Nat->St->Hp->Prop)(h0:Pv 0 σ H)(hl:∀i σ H',i<=xs.length->Pv i σ H'->H' a=some (.tup xs))
  (hs:∀i x σ H,xs[i]?=some x->Pv i σ H->g x σ H fun σ2 H2=>tb { D with nx:=Pv (i+1),ct:=Pv (i+1),bk:=D.nx } σ2 H2) (hd:∀σ H,Pv xs.length σ H->D.nx σ H):TK K g tb D σ (.ref a) H:=
 ⟨a,rfl,⟨xs,eX.of ha⟩,W7 (xs:=xs) Pv h0 (fun i σ H' hi p=>eX.of (hl i σ H' hi p)) hs hd⟩
def CK(js:List Nat)(te:TE)(σ:St)(Q:VK)(vs:List V)(H1:Hp):Prop:=∃j:Int,vs=[.int j]/\-(2 ^ 62)<=j/\j<2 ^ 62/\∀acc,H1 acc=none->∃W:Nat->Nat->List V->Hp->Prop,(∃m,W 0 m [] (upd H1 acc (.lst [])))/\∀i m ys H2,W i m ys H2 ->
 ((QS 0 j.toNat).stop i H2/\Q (.ref acc) H2)\/((QS 0 j.toNat).go i H2/\∀x H3,(QS 0 j.toNat).Gf i H2 x H3->te (some x::bR js σ) H3 fun y H4=>H4 acc=some (.lst ys)/\ys.length<sizeLine/\∃m',m'<m/\W (i+1) m' (ys++[y]) (upd H4 acc (.lst (ys++[y]))))
theorem uE{js:List Nat}{ta:TA}{te:TE}{σ:St}{H:Hp}{Q:VK}:iw js (zj ta) te σ H Q=ta σ H (CK js te σ Q):=rfl
theorem CK.of{js:List Nat}{te:TE}{σ:St}{H:Hp}{Q:VK}{n:Nat}{i:Int}(ei:i=n)(hn:n<=1000000)
  (h:∀acc,H acc=none->∃Pv:Nat->List V->Hp->Prop,Pv 0 [] (upd H acc (.lst [])) /\
   (∀i ys H',i<n->Pv i ys H'->te (some (.int (0+(i:Nat)))::bR js σ) H' fun y bO=>bO acc=some (.lst ys)/\ys.length<sizeLine/\Pv (i+1) (ys++[y]) (upd bO acc (.lst (ys++[y])))) /\
   ∀ys H',Pv n ys H'->Q (.ref acc) H'):CK js te σ Q [.int i] H:=by
 subst ei;have:=Ug (ta:=fun _ H R=>R [.int n] H) (σ:=σ) (H:=H) (Q:=Q) (js:=js) (te:=te) (n:=n) (fun R hR=>hR) hn h;exact this
def Gs(mg:Str->Option AA)(x:Str)(i:Str):Prop:=∃t,mg x=some (.str i t)
theorem Ek{X:Cx}{x:Str}{i:Str}{pos:Pos}(h:Gs X.mg x i)(hg: ~~~(Gl X x))(hd:((x==("__debug__" : Str))=false)⁻¹):PE X (.Name x pos) (tC (.str i)):=by
 obtain⟨t,ht⟩:=h;exact Em hg ht ⟨t,rfl⟩ hd
def jx(b:Int):List Int->Int
 | []=>b
 | x::r=>jx (if x>b then x else b) r
section
variable{prog:AC}{w:World}{A:Around}{R:Result->AB->Prop}{It:Addr}{fp wr:List Addr}{n:Nat}{Pv:Nat->AA->Prop}{St:Nat->Heap->Prop}
theorem SQ{ns:List Int}(W:Walks prog w A.in1 It fp wr n Pv St)(hn:n=ns.length)(hv:∀i v,Pv i v->∃t,v=.int (ns.getD i 0) t)(C:Addr)(nf:C∉fp)(d:AA):∀(m j:Nat)(z:AB)(best:Int)(tb:Tok)(c:Nat),ns.length-j=m->j<=ns.length->St j z.heap ->
  z.heap.get? C=some ⟨.type "list",none,.seq #[.int best tb,.int best tb] c,#[]⟩ ->
  (∀t h' tk,(∀b o,b∉wr->b≠C->z.heap.get? b=some o->h'.get? b=some o)->R (.ok (.ret (.int (jx best (ns.drop j)) t))) { z with heap:=h',toks:=tk }) ->
  codeAny (model prog w) A (.builtin "max.loop" ⟨[.ref It,.none,.ref C],[("default",d)]⟩) R z:=by
 subst hn;have nw:C∉wr:=fun q=>nf (W.sub _ q);have nm:(toString "max" ++ toString ".loop" : String) = "max.loop" := by decide
 intro m
 induction m with
 | zero=>
  intro j z best tb c hm hj st hC fin;have e:j=ns.length:=by omega
  subst e;refine codeAny_builtin PySem.F.entry_max_loop ?_;rw[Around.under_plainId PySem.F.plain_max_loop _];show wpAny _ A.in1 (seqItems? (.ref C) >>= _) _ _ z;refine bh (qZ hC rfl ?_);show wpAny _ A.in1 (tryCatch (pyNext (.ref It)) _ >>= _) _ _ z;refine bh (JM (W.done z _ _ st fun h' tk kp=>?_));refine bh (wpAny_updateSeq (kp C _ nw hC) rfl (bh (yu (cH ?_))));rw[GQ] at fin;exact fin tb _ tk fun b o h1 h2 h3=>(wC _ _ (Ne.symm h2)).trans (kp b o h1 h3)
 | succ m ih=>
  intro j z best tb c hm hj st hC fin;have lt:j<ns.length:=by omega
  refine codeAny_builtin PySem.F.entry_max_loop ?_;rw[Around.under_plainId PySem.F.plain_max_loop _];show wpAny _ A.in1 (seqItems? (.ref C) >>= _) _ _ z;refine bh (qZ hC rfl ?_);show wpAny _ A.in1 (tryCatch (pyNext (.ref It)) _ >>= _) _ _ z;refine bh (JM (W.item j z _ _ lt st fun v h' tk hP st' kp=>?_));obtain⟨t,rfl⟩:=hv j v hP;have hC':=kp C _ nw hC;show wpAny _ A.in1 (tryCatch (holding [_,_] (richCompare .Gt _ (.int best tb) >>= _)) _ >>= _) _ _ _;refine bh (JM (jX (bh (richCompare_gives (op:=.Gt) (typeIs_int _ _ t) (typeIs_int _ _ tb) PySem.F.slot_int_gt PySem.F.entry_int_gt (PySem.F.args_int_gt_2 _ _) (gives_int_gt _ _ t tb) (fun x=>nomatch x) ?_))))
  refine bh (jX (G_ (bh (yu (cH ?_)))))
  have dr:ns.drop j=ns.getD j 0::ns.drop (j+1):=by
   rw[Hf lt,iV,dC lt]; rfl
  rw[dr] at fin;by_cases hb:ns.getD j 0>best
  ·have e1:jx best (ns.getD j 0::ns.drop (j+1))=jx (ns.getD j 0) (ns.drop (j+1)):=by rw[jx,aX hb]
   rw[e1] at fin;rw[jF hb];simp only[if_true];refine bh (wpAny_updateSeq hC' rfl (bh (yu ?_)));rw[nm];refine cH ⟨plainId_quiet PySem.F.plain_max_loop _,ih (j+1) _ _ t _ ∅ lt (W.frame _ _ _ st' fun b hb o e=>?_) (Hc _ hC' rfl) fun t2 h2 tk2 k2=>?_⟩
   ·exact(wC _ _ (fun q:C=b=>nf (by rw[q]; exact hb))).trans e
   ·exact fin t2 h2 tk2 fun b o h1 h3 e=>k2 b o h1 h3 ((wC _ _ (Ne.symm h3)).trans (kp b o h1 e))
  ·have e1:jx best (ns.getD j 0::ns.drop (j+1))=jx best (ns.drop (j+1)):=by rw[jx,aQ hb]
   rw[e1] at fin;rw[mJ hb];simp only[Ai,if_false];refine bh (yu ?_);rw[nm];refine cH ⟨plainId_quiet PySem.F.plain_max_loop _,ih (j+1) _ best tb c ∅ lt st' hC' fun t2 h2 tk2 k2=>?_⟩
   exact fin t2 h2 tk2 fun b o h1 h3 e=>k2 b o h1 h3 (kp b o h1 e)
theorem Pq{ns:List Int}(W:Walks prog w A.in1 It fp wr n Pv St)(hn:n=ns.length)(hv:∀i v,Pv i v->∃t,v=.int (ns.getD i 0) t)(C:Addr)(nf:C∉fp)(d:AA)(z:AB)(c:Nat)(st:St 0 z.heap)
  (hC:z.heap.get? C=some ⟨.type "list",none,.seq #[] c,#[]⟩)
  (f0:ns=[]->∀h' tk,(∀b o,b∉wr->b≠C->z.heap.get? b=some o->h'.get? b=some o)->R (.ok (.ret d)) { z with heap:=h',toks:=tk })
  (f1:∀x r,ns=x::r->∀t h' tk,(∀b o,b∉wr->b≠C->z.heap.get? b=some o->h'.get? b=some o)->R (.ok (.ret (.int (jx x r) t))) { z with heap:=h',toks:=tk }) :
  codeAny (model prog w) A (.builtin "max.loop" ⟨[.ref It,.none,.ref C],[("default",d)]⟩) R z:=by
 have nw:C∉wr:=fun q=>nf (W.sub _ q);have nm:(toString "max" ++ toString ".loop" : String) = "max.loop" := by decide
 refine codeAny_builtin PySem.F.entry_max_loop ?_;rw[Around.under_plainId PySem.F.plain_max_loop _];show wpAny _ A.in1 (seqItems? (.ref C) >>= _) _ _ z;refine bh (qZ hC rfl ?_);show wpAny _ A.in1 (tryCatch (pyNext (.ref It)) _ >>= _) _ _ z;cases ns with
 | nil=>
  subst hn;refine bh (JM (W.done z _ _ st fun h' tk kp=>?_));show wpAny _ A.in1 (rule _ >>= _) _ _ _;exact bh (Ae (cH (f0 rfl h' tk fun b o h1 _ e=>kp b o h1 e)))
 | cons x r=>
  refine bh (JM (W.item 0 z _ _ (by rw[hn]; exact Nat.succ_pos _) st fun v h' tk hP st' kp=>?_))
  obtain⟨t,e⟩:=hv 0 v hP;have e:v=.int x t:=e;subst e;have hC':=kp C _ nw hC;show wpAny _ A.in1 (updateSeq C (fun _=>#[Value.int x t,Value.int x t]) >>= _) _ _ _;refine bh (wpAny_updateSeq hC' rfl ?_);rw[nm];refine cH ⟨plainId_quiet PySem.F.plain_max_loop _,SQ W hn hv C nf d _ 1 _ x t _ rfl (by simp) (W.frame _ _ _ st' fun b hb o e=>?_) (Hc _ hC' rfl) fun t2 h2 tk2 k2=>?_⟩
  ·exact(wC _ _ (fun q:C=b=>nf (by rw[q]; exact hb))).trans e
  ·exact f1 x r rfl t2 h2 tk2 fun b o h1 h3 e=>k2 b o h1 h3 ((wC _ _ (Ne.symm h3)).trans (kp b o h1 e))
end
theorem Qx(a v:AA):argsOk "max" ⟨[a],[("default",v)]⟩:=by unfold argsOk; kernel_rfl
section
variable{prog:AC}{w:World}{A:Around}{E:AA->AB->Prop}{s:AB}
theorem Qp{l:Addr}{its:List AA}{ns:List Int}{d:AA}{Q:AA->AB->Prop}(hh:A.handled=none)(hl:s.heap.IsList l its.toArray)(hi:∀i v,its[i]?=some v->∃t,v=Value.int (ns.getD i 0) t)(hlen:its.length=ns.length)
  (h0:ns=[]->∀h' tk,(∀b o,s.heap.get? b=some o->h'.get? b=some o)->Q d { s with heap:=h',toks:=tk })
  (h1:∀b r,ns=b::r->∀t h' tk,(∀b o,s.heap.get? b=some o->h'.get? b=some o)->Q (Value.int (jx b r) t) { s with heap:=h',toks:=tk }) :
  wpAny (model prog w) A (call (.builtin "max") [.ref l] [("default",d)]) Q E s:=by
 have nm:(toString "max" ++ toString ".loop" : String) = "max.loop" := by decide
 have lt:l<s.heap.objs.size:=by obtain⟨_,e,_⟩:=hl; exact bV e
 refine kmk_tree PySem.F.kind_max PySem.F.plain_max PySem.F.entry_max (Qx _ _) ?_;show wpAny _ A.in1 (Builtin.Builtins.bindParams "max" ["key","default"] 0 ⟨[],[("default",d)]⟩ >>= _) _ _ s;refine bh (yq (show Builtin.Builtins.bindParams "max" ["key","default"] 0 ⟨[],[("default",d)]⟩=pure [none,some d] from rfl) ?_);refine bh (cH ?_);refine bh (Ec hl ?_);refine bh (uU ?_);rw[nm];have W:=Walks.list (prog:=prog) (w:=w) (A:=A.in1) hh s.heap.objs.size l (fG lt) its.toArray;generalize eh:s.heap.push { cls:=.type "list_iterator",data:=.fields #[.ref l,.int 0 0] }=h1';have sz:h1'.objs.size=s.heap.objs.size+1:=by rw[<- eh,iW]
 have k1:∀b o,s.heap.get? b=some o->h1'.get? b=some o:=fun b o e=>by rw[<- eh]; exact eF _ e
 have hit:h1'.IsListIter s.heap.objs.size l 0:=by rw[<- eh]; exact⟨_,dI _ rfl,rfl,rfl⟩
 have hl1:h1'.IsList l its.toArray:=by rw[<- eh]; exact hl.push _
 have nf:h1'.objs.size∉[s.heap.objs.size,l]:=fun q=>by
  rcases bN.mp q with e | q
  ·rw[sz] at e; exact Nat.succ_ne_self _ e
  ·have e:=iU.mp q; rw[sz] at e; rw[<- e] at lt; exact uT _ (Hh (GR _) lt)
 have ol:∀{h':Heap},(∀b o,b∉[s.heap.objs.size]->b≠h1'.objs.size->(h1'.push { cls:=.type "list",data:=.seq #[] 0 }).get? b=some o->h'.get? b=some o)->∀b o,s.heap.get? b=some o->h'.get? b=some o:=fun k b o e=>by
  have lb:=bV e;refine k b o (fun q=>?_) (fun q=>?_) (eF _ (k1 b o e))
  ·rw[iU.mp q] at lb; exact uT _ lb
  ·rw[q,sz] at lb; exact uT _ (Hh (GR _) lb)
 refine cH ⟨plainId_quiet PySem.F.plain_max_loop _,Pq (ns:=ns) W (by rw[gb,hlen]) (fun i v e=>hi i v (by simpa using e)) h1'.objs.size nf d _ _ ?_ (dI _ rfl) (fun e h' tk k=>h0 e h' tk (ol k)) (fun x r e t h' tk k=>h1 x r e t h' tk (ol k))⟩
 exact W.frame _ _ _ (show h1'.IsListIter s.heap.objs.size l 0/\h1'.IsList l its.toArray from⟨hit,hl1⟩) fun b _ o e=>eF _ e
end
section
variable{X:Cx}
def XC(t:TA)(te:TE):TE:=fun σ H Q=>t σ H fun vs H1=>te σ H1 fun y H2=>∃(p:Addr)(ns:List Int),vs=[.ref p]/\H2 p=some (.lst (ns.map V.int))/\(ns=[]->Q y H2)/\∀b r,ns=b::r->Q (.int (jx b r)) H2
theorem DK{ns:List Int}:∀{us:List AA},Vals (ns.map V.int) us->∀i v,us[i]?=some v->∃t,v=Value.int (ns.getD i 0) t:=by
 induction ns with
 | nil=>intro us r i v e; cases r; simp at e
 | cons n ns ih=>
  intro us r i v e;cases r with
  | cons r1 r2=>
   cases i with
   | zero=>
    obtain⟨t,rfl⟩:=(r1:∃t,_=Value.int n t);simp at e;exact⟨t,e.symm⟩
   | succ i=>simpa using ih r2 i v (by simpa using e)
theorem We{e e2:Expr}{t:TA}{te:TE}{p pos WN:Pos}(hc:X.calm=true)(hm:X.mg "max" = none)(ha:PA X [e] t)(hk:PE X e2 te)(hg: ~~~(Gl X "max"))(h1: ~~~(b7 e=true)) :
  PE X (.Call (.Name "max" p) [e] [⟨some "default",e2,WN⟩] pos) (XC t te):=by
 symm;intro Q I h;refine uV (jy I hg hm kZ ?_ ⋯ ⋯)
 refine callWith_kw ?_ ?_ ?_ ?_ ?_
 ·refine cT (ha pos ae s σ H _ I h) fun us s1 qx=>?_;obtain⟨vs,H1,I1,r,q⟩:=qx;refine cT ((V0 hk ZG:PK X [⟨some "default",e2,WN⟩] _) pos ae s1 σ H1 (fun ys H2=>∃y,ys=[y]/\(∃(p:Addr)(ns:List Int),vs=[.ref p]/\H2 p=some (.lst (ns.map V.int))/\(ns=[]->Q y H2)/\∀b r,ns=b::r->Q (.int (jx b r)) H2)) I1 ?_) fun ws s2 ⟨zs,H2,I2,rz,q2⟩=>?_
  ·show te σ H1 (fun x H2=>∃y,[x]=[y]/\_)
   have fe:(fun(x:V)(H2:Hp)=>∃y,[x]=[y]/\(∃(p:Addr)(ns:List Int),vs=[.ref p]/\H2 p=some (.lst (ns.map V.int))/\(ns=[]->Q y H2)/\∀b r,ns=b::r->Q (.int (jx b r)) H2))=fun y H2=>∃(p:Addr)(ns:List Int),vs=[.ref p]/\H2 p=some (.lst (ns.map V.int))/\(ns=[]->Q y H2)/\∀b r,ns=b::r->Q (.int (jx b r)) H2:=by
    funext x H2
    refine propext ⟨?_,fun z=>⟨x,rfl,z⟩⟩;rintro⟨y,ey,z⟩;cases ey;exact z
   rw[fe];exact q
  ·obtain⟨y,rfl,l,ns,rfl,hl,q0,q1⟩:=q2;obtain⟨u,rfl,ru⟩:=r.one;cases ru;obtain⟨v,rfl,rv⟩:=rz.one;obtain⟨_,its,n,rvs,eo⟩:=I2.hok l _ hl;have hlen:=rvs.length;rw[bW] at hlen;refine Qp (ns:=ns) (I2.ok.hd hc) (show s2.heap.IsList l its.toArray from⟨_,eo,rfl,n,rfl⟩) (DK rvs) hlen.symm (fun e h' tk k=>⟨y,H2,I2.kept (t':=tk) k,rv,q0 e⟩) (fun b r e t h' tk k=>⟨.int (jx b r),H2,I2.kept (t':=tk) k,⟨t,rfl⟩,q1 b r e⟩)
 ·rw[cC h1]; rfl
 ·exact cL (es:=[e]) (by simp[h1])
 ·rfl
 ·rfl
end
def fO(t:Str):Nat:=if(("come" : Str)==t)=true then 0 else if(("done" : Str)==t)=true then 1 else 2
def Q3:List V:=[.str "come",.str "done",.str "wait"]
def ach(K:Frag):V->List V->Hp->VK->Prop:=fun x xs H Q=>∃(p:Addr)(t:Str),x=.ref p/\eX K H p Q3/\xs=[.str t]/\t∈(["come","done","wait"]:List Str)/\Q (.int (fO t)) H
def Zz:V->List V->Hp->VK->Prop:=fun x xs H Q=>∃(p:Addr)(t:Str),x=.ref p/\H p=some (.lst Q3)/\xs=[.str t]/\t∈(["come","done","wait"]:List Str)/\Q (.int (fO t)) H
theorem qN{x y z:V}{us:List AA}(h:Vals [x,y,z] us):∃u v q,us=[u,v,q]/\RelV x u/\RelV y v/\RelV z q:=by
 obtain⟨u,r,rfl,h1,h⟩:=h.un;obtain⟨v,q,rfl,h2,h3⟩:=h.two;exact⟨u,v,q,rfl,h1,h2,h3⟩
theorem Nf{t:Str}(h:t∈(["come","done","wait"]:List Str))(h0:(("come" : Str)==t)=false)(h1:(("done" : Str)==t)=false):(("wait" : Str)==t)=true:=by
 simp only[bN,e_,or_false] at h;rcases h with rfl | rfl | rfl
 ·revert h0; decide +kernel
 ·revert h1; decide +kernel
 ·decide +kernel
section
variable{X:Cx}
theorem Gp{prog:AC}{w:World}{A:Around}{E:AA->AB->Prop}{s:AB}{p:Addr}{a b c t:Str}{k0 k1 k2 k3:Tok}{Q:AA->AB->Prop}(ht:IsTup s.heap p #[.str a k0,.str b k1,.str c k2])(hl:(a==t)=false->(b==t)=false->(c==t)=true)
  (q:∀tk,Q (Value.int (if(a==t)=true then 0 else if(b==t)=true then 1 else 2) tk) { s with toks:=s.toks+1 }):wpAny (model prog w) A (call (.builtin "tuple.index") [.ref p,.str t k3]) Q E s:=by
 refine Ah PySem.F.slot_tuple_index ht.typeIs PySem.F.entry_tuple_index ?_ (PySem.F.args_tuple_index_2 _ _);show wpAny _ A.in1 (Builtin.Tuple.tupleItemsOf (.ref p) >>= _) _ _ s;refine bh (tupleItemsOf_ ht ?_);show wpAny _ _ ((pure 0:Sem Nat) >>= _) _ _ s;refine bh (cH ?_);show wpAny _ _ ((pure 3:Sem Nat) >>= _) _ _ s;refine bh (cH ?_);show wpAny _ _ (forIn [0:3] _ _ >>= _) _ _ s;rw[Std.Legacy.Range.forIn_eq_forIn_range'];have e:List.range' [0:3].start [0:3].size [0:3].step=[0,1,2]:=rfl;rw[e,GK]
 have mk:∀(i:Int){R:PySem.Fin->AB->Prop},(∀tk,R (.done (.ret (.int i tk))) { s with toks:=s.toks+1 })->wpAny (model prog w) A.in1 (retInt i) R E s:=fun i {R} h=>by
  unfold retInt;refine bh (wpAny_mkInt (cH (h _)))
 have eq:∀(z:Str)(k:Tok),SeqAt.EqAt A.in1 s (.str z k) (.str t k3) (z==t):=fun z k=>SeqAt.EqAt.str_str z k t k3;cases e0:(a==t) with
 | true=>
  rw[e0] at q;refine bh (bh (bh (eq a k0 _ _ _ _ ?_)));rw[e0,aX rfl];refine bh (mk 0 fun tk=>cH (cH (cH ⟨_,rfl,q tk⟩)))
 | false=>
  rw[e0] at q;refine bh (bh (bh (eq a k0 _ _ _ _ ?_)));rw[e0,aQ ⋯]
  refine cH ?_;show wpAny _ _ (forIn [1,2] _ _) _ _ s;rw[GK];cases e1:(b==t) with
  | true=>
   rw[e1] at q;refine bh (bh (eq b k1 _ _ _ _ ?_));rw[e1,aX rfl];refine bh (mk 1 fun tk=>cH (cH (cH ⟨_,rfl,q tk⟩)))
  | false=>
   rw[e1] at q;refine bh (bh (eq b k1 _ _ _ _ ?_));rw[e1,aQ ⋯]
   refine cH ?_;show wpAny _ _ (forIn [2] _ _) _ _ s;rw[GK];refine bh (bh (eq c k2 _ _ _ _ ?_));rw[hl e0 e1,aX rfl];refine bh (mk 2 fun tk=>cH (cH (cH ⟨_,rfl,q tk⟩)))
theorem Pr{K:Frag}(hK:X.K=K):MtR X "tuple.index" (ach K):=by
 subst hK;intro ae s σ H x xs v us Q I rx rv h;obtain⟨p,t,rfl,hp,rfl,ht,q⟩:=h;cases rx;obtain⟨u,rfl,tk,rfl⟩:=rv.one;obtain⟨its,r,pt,_⟩:=I.tuple hp;obtain⟨u0,u1,u2,rfl,⟨k0,rfl⟩,⟨k1,rfl⟩,⟨k2,rfl⟩⟩:=qN r;refine Gp pt (Nf ht) fun tk'=>⟨.int (fO t),H,I.tok _,⟨tk',?_⟩,q⟩;unfold fO;split
 ·rfl
 ·split <;> rfl
theorem Pu:MtR X "list.index" Zz:=by
 intro ae s σ H x xs v us Q I rx rv h;obtain⟨p,t,rfl,hp,rfl,ht,q⟩:=h;cases rx;obtain⟨u,rfl,tk,rfl⟩:=rv.one;obtain⟨_,its,n,r,e⟩:=I.hok p _ hp;obtain⟨u0,u1,u2,rfl,⟨k0,rfl⟩,⟨k1,rfl⟩,⟨k2,rfl⟩⟩:=qN r
 have ee:∀y,y ∈ #[Value.str "come" k0,Value.str "done" k1,Value.str "wait" k2]->SeqAt.EqAt X.A.in1 s y (.str t tk) (DQ y==t):=fun y hy=>by
  simp only[List.mem_toArray,bN,e_,or_false] at hy;rcases hy with rfl | rfl | rfl <;> exact SeqAt.EqAt.str_str _ _ _ _
 have fin:∀j:Nat,fO t=j->(∃x H',Inv X ae σ H' { s with toks:=s.toks+1 }/\RelV x (.int (j:Int) s.toks)/\Q x H'):=fun j ej=>⟨.int j,H,I.tok _,⟨_,rfl⟩,by rw[<- ej]; exact q⟩
 cases e0:(("come" : Str)==t) with
 | true=>
  refine call_meets PySem.F.slot_list_index ⟨_,e,rfl⟩ PySem.F.entry_list_index (PySem.F.args_list_index_2 _ _) (SeqAt.list_indexAt p #[.str "come" k0,.str "done" k1,.str "wait" k2] n none #[] (.str t tk) (fun y=>DQ y==t) 0 (by show 0<3; decide) ⋯ e0 (fun m hm h=>by omega)) ⟨e,ee,?_⟩
  exact fin 0 (by unfold fO; rw[aX e0])
 | false=>
  cases e1:(("done" : Str)==t) with
  | true=>
   refine call_meets PySem.F.slot_list_index ⟨_,e,rfl⟩ PySem.F.entry_list_index (PySem.F.args_list_index_2 _ _) (SeqAt.list_indexAt p #[.str "come" k0,.str "done" k1,.str "wait" k2] n none #[] (.str t tk) (fun y=>DQ y==t) 1 (by show 1<3; decide) ⋯ e1 (fun m hm h=>by
    have:m=0:=by omega
    subst this; exact e0)) ⟨e,ee,?_⟩
   exact fin 1 (by unfold fO; rw[aQ (by rw[e0]; decide),aX e1])
  | false=>
   refine call_meets PySem.F.slot_list_index ⟨_,e,rfl⟩ PySem.F.entry_list_index (PySem.F.args_list_index_2 _ _) (SeqAt.list_indexAt p #[.str "come" k0,.str "done" k1,.str "wait" k2] n none #[] (.str t tk) (fun y=>DQ y==t) 2 (by show 2<3; decide) ⋯ (Nf ht e0 e1) (fun m hm h=>by
    have:m=0\/m=1:=by omega
    rcases this with rfl | rfl
    ·exact e0
    ·exact e1)) ⟨e,ee,?_⟩
   exact fin 2 (by unfold fO; rw[aQ (by rw[e0]; decide),aQ (by rw[e1]; decide)])
def GT2(K:Frag)(mg:Str->Option AA)(x:Str)(W:List V):Prop:=∃a,mg x=some (.ref a)/\(∃o,K.lookup a=some o/\o.cls=.type "tuple" /\ o.dict=none)/\∀H,eX K H a W
def abR(K:Frag)(W:List V):TE:=fun _ H Q=>∀a,(∃o,K.lookup a=some o/\o.cls=.type "tuple" /\ o.dict=none)->(∀H',eX K H' a W)->Q (.ref a) H
theorem Wb{K:Frag}{x:Str}{W:List V}{pos:Pos}(hK:X.K=K)(h:GT2 K X.mg x W)(hg: ~~~(Gl X x))(hd:((x==("__debug__" : Str))=false)⁻¹):PE X (.Name x pos) (abR K W):=by
 obtain⟨a,ha,ho,hs⟩:=h;symm;intro Q I q;exact Em (v:=.ref a) hg ha rfl hd ae s σ H Q I (q a ho hs)
end
section
variable{X:Cx}{pos:Pos}
def Xw(i j l:Nat)(ta:TA):TS:=fun D σ H=>ta σ H fun vs H1=>∃v w z,vs=[v,w,z]/\D.nx (((σ.set l (some z)).set j (some w)).set i (some v)) H1
theorem Mw{i j l:Nat}{x y z:Str}{a b c:Expr}{ta:TA}{px py pz pt:Pos}{kt k2 ZC}(hc:X.calm=true)(hN:X.N.Nodup)(hi:X.N[i]?=some x)(hj:X.N[j]?=some y)(hl:X.N[l]?=some z)
  (hx:X.env.scope.names.lookup x=some .local) (hy:X.env.scope.names.lookup y=some .local) (hz:X.env.scope.names.lookup z=some .local) (ha:PA X [a,b,c] ta)
  (hw:swappedStores [.Tuple [.Name x px,.Name y py,.Name z pz] kt pt] (.Tuple [a,b,c] k2 ZC) X.env=pure (some [x,y,z]))
  (hs: ~~~(swapsWithSole [.Tuple [.Name x px,.Name y py,.Name z pz] kt pt] (.Tuple [a,b,c] k2 ZC) pos.line X.env=pure false)) :
  PS X (.Assign [.Tuple [.Name x px,.Name y py,.Name z pz] kt pt] (.Tuple [a,b,c] k2 ZC) pos) (Xw i j l ta):=by
 symm;intro D I h;rw[exec_Assign_arm,hs];refine bh (Ag (bh (cH ?_)));rw[aQ ⋯]
 refine bh (Tuple_ (cT (ha _ ae s σ H _ I h) fun us s1 qx=>?_));obtain⟨vs,H1,I1,r1,v,w,t,e1,q1⟩:=qx;subst e1;obtain⟨u1,u2,u3,rfl,rv,D_,rt⟩:=qN r1;refine uU ?_ (by show 3<=sizeLine; decide)
 have I2:Inv X ae σ H1 { s1 with heap:=s1.heap.push { cls:=.type "tuple",data:=.seq [u1,u2,u3].toArray } }:=I1.kept (t':=s1.toks) fun b o e=>eF _ e
 rw[hw];refine bh (cH ?_);show wpAny (model X.prog X.w) X.A (do rule "assign.swapped-stores"; let items <- unpackItems (.ref s1.heap.objs.size) 3 none; assignInOrder [fun v=>bindName X.env z v,fun v=>bindName X.env y v,fun v=>bindName X.env x v] items.reverse; pure Flow.next) _ _ _
 refine bh (Ae (bh (unpackItems_tuple (items:=#[u1,u2,u3]) (I.ok.hd hc) (IsTup.new s1.heap _) fun h' hx'=>?_)));have I3:=I2.kept (h':=h') (t':=s1.toks) fun b o e=>hx' b o (fG (bV e)) e;show wpAny _ _ (assignInOrder [fun v=>bindName X.env z v,fun v=>bindName X.env y v,fun v=>bindName X.env x v] [u3,u2,u1] >>= fun _=>pure Flow.next) _ _ _;refine bh (assignInOrder_cons (Hk (iD I3 hN hl (.inl hz) rt (fun s2 I4=>?_) (.inr hz))));refine assignInOrder_cons (Hk (iD I4 hN hj (.inl hy) D_ (fun s3 I5=>?_) (.inr hy)));exact assignInOrder_cons (Hk (iD I5 hN hi (.inl hx) rv (fun s4 I6=>assignInOrder_nil (cH ⟨_,H1,I6,q1⟩)) (.inr hx)))
end
theorem Inv.Vl{X:Cx}{ae:LA}{σ:St}{H:Hp}{s:AB}{h':Heap}{t':Nat}{e it:Addr}(I:Inv X ae σ H s)(k:∀b o,b≠e->b≠it->s.heap.get? b=some o->h'.get? b=some o)(fe:gB X ae H e)(fi:gB X ae H it) :
  Inv X ae σ H { s with heap:=h',toks:=t' }:=by
 have k2:∀b o,b∉[e,it]->s.heap.get? b=some o->h'.get? b=some o:=fun b o hb q=>k b o (fun z=>hb (by simp[z])) (fun z=>hb (by simp[z])) q
 have fp:∀b∈[e,it],gB X ae H b:=fun b hb=>by
  rcases bN.mp hb with z | z
  ·rw[z]; exact fe
  ·rw[iU.mp z]; exact fi
 have ni:∀b u,H b=some u->b∉[e,it]:=fun b u q hb=>by rw[(fp b hb).1] at q; cases q
 refine I.step (g':=s.gens) (d':=s.drawn) (ch:=[e,it]) (fun b hb=>?_) (fun b o _ _ hc q _=>k2 b o hc q) (fun b o _ _ hc q _=>⟨o.slots,k2 b o hc q⟩) (fun _ _ _ _ n=>n) (fun b o hc q=>⟨o,k2 b o hc q⟩) (fun _ _ q=>q) (fun _ _ _ q=>q)
  (fun b ps q=>⟨#[],by rw[q]; simp⟩) (fun m hm=>?_) (fun b u q=>?_) I.bare
 ·obtain⟨_,f1,_,f3,f4,f5⟩:=fp b hb;exact⟨f3,f1,f4,f5⟩
 ·obtain⟨o,es,ep,ho,r⟩:=hm;refine⟨o,es,ep,k2 _ o (fun hb=>(fp _ hb).2.1 rfl) ho,r⟩
 ·refine(I.hok b u q).stay (fun c v hc z=>k2 c v ?_ z) (fun _ z=>z) fun _ _ z=>z;rcases hc with z | z
  ·rw[z]; exact ni b u q
  ·exact ni c _ z
def Ite(K:Frag)(a:Addr):It:=
 ⟨fun i H=>∃xs x,cG K H a xs/\xs[i]?=some x,fun i H x H'=>∃p y,H p=none/\x=.ref p/\H'=upd H p (.tup [.int i,y])/\∀xs,cG K H a xs->xs[i]?=some y,fun i H=>∃xs,cG K H a xs/\xs.length<=i⟩
theorem Ol{P:AC}{w:World}{K:Frag}{elts:List Expr}{x1}{tp:Pos}(a e it:Addr)(hne:e≠it):Turn P w K (.Tuple elts x1 tp) (Ite K a) [e,it] e (fun i h=>(∃old,IsEnum h e it (i:Nat) old)/\h.IsListIter it a i) where
 mem:=by simp
 obj:=fun i h st b hb=>by
  obtain⟨⟨old,he⟩,o,ho,c,d⟩:=st;rcases bN.mp hb with z | z
  ·rw[z]; exact⟨_,he,fun v q=>by cases q⟩
  ·rw[iU.mp z]; exact⟨o,ho,fun v q=>by rw[d] at q; cases q⟩
 keep:=fun i h h' st k=>by
  obtain⟨⟨old,he⟩,hi⟩:=st;exact⟨⟨old,k e (by simp) _ he⟩,hi.at fun o q=>k it (by simp) o q⟩
 item:=by
  intro X hP hw hK hc i ae s σ H E I hf st hg;subst hP hw hK;obtain⟨⟨old,he⟩,hi⟩:=st;obtain⟨xs,x,hq,hx⟩:=hg;obtain⟨its,rv,p,hz⟩:=I.list hq;obtain⟨u,hu,ru⟩:=rv.get hx;have fe:=hf e (by simp)
  have fi:=hf it (by simp)
  refine wpAny_pyNext_enum_item he hi p.isList (x:=u) (by simpa using hu) hne fun h' eo hi' ht hsz kk=>?_
  have fr:H s.heap.objs.size=none:=I.hok.fresh (bJ _)
  have I1:Inv X ae σ (upd H s.heap.objs.size (.tup [.int i,x])) { s with heap:=s.heap.push { cls:=.type "tuple",data:=.seq #[.int i s.toks,u] },toks:=s.toks }:=
   I.laid (t':=s.toks) (fun b v q=>eF _ q) (bJ _) ⟨(by show 2<=sizeLine; decide),[.int i s.toks,u],.cons ⟨_,rfl⟩ (.cons ru .nil),⟨_,dI _ rfl,rfl,_,rfl⟩⟩
  have ee:e<s.heap.objs.size:=bV he;have ei:it<s.heap.objs.size:=by obtain⟨o,ho,_⟩:=hi; exact bV ho
  have fe1:gB X ae (upd H s.heap.objs.size (.tup [.int i,x])) e:=⟨by rw[aJ (fG ee)]; exact fe.1,fe.2⟩
  have fi1:gB X ae (upd H s.heap.objs.size (.tup [.int i,x])) it:=⟨by rw[aJ (fG ei)]; exact fi.1,fi.2⟩
  have I2:Inv X ae σ (upd H s.heap.objs.size (.tup [.int i,x])) { s with heap:=h',toks:=s.toks+1 }:=I1.Vl (t':=s.toks+1) (fun b o h1 h2 q=>by
   by_cases z:b=s.heap.objs.size
   ·subst z;rw[dI _ rfl] at q;cases q;exact ht
   ·rcases Heap.get?_push_cases q with w | w
    ·exact absurd w.1 z
    ·exact kk b o h1 h2 w) fe1 fi1
  refine⟨_,rfl,wpAny_letOwnedTupleGo_enum eo fun h'' en sb=>⟨.ref s.heap.objs.size,_,I2.turned (it:=e) (t':=s.toks+1) (fun b o hb q=>sb.extBut b o hb q) fe1.1 fe1.2.1 fe1.2.2.2.1 fe1.2.2.2.2.1 fe1.2.2.2.2.2,rfl,⟨_,x,fr,rfl,rfl,fun ys hy=>by rw[I.y_ hy hq]; exact hx⟩,⟨⟨_,en⟩,?_⟩,fun b hb=>?_⟩⟩
  ·exact hi'.at fun o q=>sb.extBut it o (Ne.symm hne) q
  ·rcases bN.mp hb with z | z
   ·rw[z]; exact fe1.1
   ·rw[iU.mp z]; exact fi1.1
 done:=by
  intro X hP hw hK hc i ae s σ H E I hf st hg;subst hP hw hK;obtain⟨⟨old,he⟩,hi⟩:=st;obtain⟨xs,hq,hx⟩:=hg;obtain⟨its,rv,p,hz⟩:=I.list hq;have hl:=rv.length;obtain⟨f0,f1,f2,f3,f4,f5⟩:=hf it (by simp)
  exact wpAny_pyNext_enum_end (I.ok.hd hc) he hi p.isList (by simp; omega) fun h' eb=>⟨rfl,I.turned (t':=s.toks) (fun b o hb q=>eb b o hb q) f0 f1 f3 f4 f5⟩
 self:=fun _ _ _ _ _ st h=>by
  obtain⟨⟨old,he⟩,_⟩:=st;exact wpAny_pyIter_enum he h
section
variable{X:Cx}
def Tq(K:Frag)(ta:TA):TI:=fun σ H R=>ta σ H fun vs H1=>∃a,vs=[.ref a]/\(∃xs,cG K H1 a xs)/\R (Ite K a) H1
theorem Ej{K:Frag}{e:Expr}{elts:List Expr}{x1}{tp p pos:Pos}{ta:TA}(hK:X.K=K)(hm:X.mg "enumerate" = none)(ha:PA X [e] ta)(hg: ~~~(Gl X "enumerate"))(h1: ~~~(b7 e=true)) :
  PI X (.Tuple elts x1 tp) (.Call (.Name "enumerate" p) [e] [] pos) (Tq K ta):=by
 subst hK;symm;intro R I h;refine uV (jy I hg hm FQ ?_ ⋯ ⋯)
 refine PyProof.Rows.callWith_type1 (cT (ha pos ae s σ H _ I h) fun us s1 ⟨vs,H1,I1,r1,q1⟩=>?_) (cC h1) (cL (es:=[]) rfl);obtain⟨a,rfl,⟨xs,hq⟩,q⟩:=q1;obtain⟨u,rfl,ru⟩:=r1.one;cases ru;obtain⟨its,rv,pl,hz⟩:=I1.list hq;refine call_enumerate_list pl.isList fun h' he hi hsz kk=>?_;have I2:Inv X ae σ H1 { s1 with heap:=h' }:=I1.kept (t':=s1.toks) kk
 have f1:H1 (s1.heap.objs.size+1)=none:=I1.hok.fresh (Ci _);have f0:H1 s1.heap.objs.size=none:=I1.hok.fresh (bJ _);refine wpAny_pyIter_enum he ⟨s1.heap.objs.size+1,_,_,Ite X.K a,H1,rfl,I2,Ol a (s1.heap.objs.size+1) s1.heap.objs.size (Nat.succ_ne_self _),⟨⟨_,he⟩,hi⟩,fun b hb=>?_,q⟩;rcases bN.mp hb with z | z
 ·rw[z]; exact I1.tY (Ci _) f1
 ·rw[iU.mp z]; exact I1.tY (bJ _) f0
def EK(K:Frag)(g:TG)(tb:TS)(D:Ends)(σ:St)(vs:List V)(H1:Hp):Prop:=∃a,vs=[.ref a]/\(∃xs,cG K H1 a xs)/\∃W:Nat->Nat->St->Hp->Prop,(∃m,W 0 m σ H1)/\∀i m σ H,W i m σ H ->
 ((Ite K a).stop i H/\D.nx σ H)\/((Ite K a).go i H/\∃N:St->Hp->Prop,(∀σ' H',N σ' H'->∃m',m'<m/\W (i+1) m' σ' H')/\∀x H',(Ite K a).Gf i H x H'->g x σ H' fun σ2 H2=>tb { D with nx:=N,ct:=N,bk:=D.nx } σ2 H2)
theorem BL{K:Frag}{ta:TA}{g:TG}{tb:TS}{D:Ends}{σ:St}{H:Hp}:Jt (Tq K ta) g tb D σ H=ta σ H (EK K g tb D σ):=rfl
theorem EK.of{K:Frag}{g:TG}{tb:TS}{D:Ends}{σ:St}{H:Hp}{a:Addr}{xs:List V}(ha:H a=some (.lst xs))(Pv:Nat->St->Hp->Prop)(h0:Pv 0 σ H)(hl:∀i σ H',i<=xs.length->Pv i σ H'->H' a=some (.lst xs))
  (hs:∀i x σ H p,xs[i]?=some x->Pv i σ H->H p=none->g (.ref p) σ (upd H p (.tup [.int (i:Nat),x])) fun σ2 H2=>tb { D with nx:=Pv (i+1),ct:=Pv (i+1),bk:=D.nx } σ2 H2) (hd:∀σ H,Pv xs.length σ H->D.nx σ H):EK K g tb D σ [.ref a] H:=by
 refine⟨a,rfl,⟨xs,cG.of ha⟩,fun i m σ H=>m=xs.length-i/\i<=xs.length/\Pv i σ H,⟨_,rfl,gU _,h0⟩,?_⟩;rintro i m σ H ⟨rfl,hi,p⟩;have q:cG K H a xs:=cG.of (hl i σ H hi p);by_cases hlt:i<xs.length
 ·refine .inr ⟨⟨xs,xs[i],q,dC hlt⟩,Pv (i+1),fun σ' H' p'=>⟨xs.length-(i+1),∅,rfl,hlt,p'⟩,fun x H' y=>?_⟩
  obtain⟨t,z,ht,rfl,rfl,hz⟩:=y;exact hs i z σ H t (hz xs q) p ht
 ·have e:i=xs.length:=by omega
  subst e;exact .inl ⟨⟨xs,q,bJ _⟩,hd σ H p⟩
end
theorem Cz:∀(l:List Int)(b x:Int),jx b (l++[x])=if x>jx b l then x else jx b l
 | [],b,x=>rfl
 | y::l,b,x=>by
  show jx (if y>b then y else b) (l++[x])=_
  rw[Cz l]; rfl
theorem Oa(val:Nat->Int):∀k,val (argBest (fun i j=>decide (val i>val j)) k)=jx (val 0) ((List.range k).map fun i=>val (i+1))
 | 0=>rfl
 | k+1=>by
  have ih:=Oa val k;rw[Ho,ig];show val (if decide (val (k+1)>val (argBest _ k))=true then k+1 else argBest _ k)=jx (val 0) (_++[val (k+1)])
  rw[Cz,<- ih];by_cases h:val (k+1)>val (argBest (fun i j=>decide (val i>val j)) k)
  ·rw[aX (jF h),aX h]
  ·rw[aQ (by rw[mJ h]; decide),aQ h]
def pairOf:AA->Int×Tok
 | .int i t=>(i,t)
 | _=>(0,0)
theorem zg:∀{ns:List Int}{us:List AA},Vals (ns.map V.int) us->us.toArray=intItems (us.map pairOf).toArray/\us.map (fun u=>(pairOf u).1)=ns
 | [],_,.nil=>⟨by simp[intItems],rfl⟩
 | n::ns,_,.cons r t=>by
  obtain⟨tk,rfl⟩:=(r:∃tk,_=Value.int n tk);obtain⟨h1,h2⟩:=zg t;refine⟨?_,by rw[iI,h2]; rfl⟩
  have h1':=m8 Array.toList h1;unfold intItems at h1' ⊢
  apply Array.ext'
  simp at h1' ⊢;exact⟨⟨rfl,rfl⟩,h1'⟩
section
variable{X:Cx}
theorem Qo(hc:X.calm=true):dG X (.builtin "max") (fun vs H Q=>∃(p:Addr)(b:Int)(r:List Int),vs=[.ref p]/\H p=some (.lst ((b::r).map V.int))/\Q (.int (jx b r)) H):=by
 symm;intro vs us Q I r h;obtain⟨p,b,rs,rfl,hp,q⟩:=h;obtain⟨u,rfl,ru⟩:=r.one;cases ru;obtain⟨_,its,n,rv,e⟩:=I.hok p _ hp;obtain⟨e1,e2⟩:=zg rv;have hl:s.heap.IsList p (intItems (its.map pairOf).toArray):=by rw[<- e1]; exact⟨_,e,rfl,n,rfl⟩
 have hlen:=rv.length;rw[bW] at hlen
 have na:∀i,numAt (its.map pairOf).toArray i=(b::rs).getD i 0:=fun i=>by
  unfold numAt;rw[<- e2,iV];simp;rfl
 refine max_intList (I.ok.hd hc) hl (by simp; rw[<- hlen]; simp) fun v h' tk hv k=>?_
 obtain⟨t,rfl⟩:=intItems_at hv;refine⟨.int (jx b rs),H,I.kept (t':=tk) k,⟨t,?_⟩,q⟩;have:=Oa (numAt (its.map pairOf).toArray) ((its.map pairOf).toArray.size-1);rw[this]
 congr 1
 have sz:(its.map pairOf).toArray.size-1=rs.length:=by simp; rw[<- hlen]; simp
 rw[sz,na 0];show jx b _=_
 congr 1
 apply Hs
 ·simp
 ·intro i h1 h2;simp at h1 h2;rw[List.getElem_map,List.getElem_range,na (i+1)];simp[iV,h2]
theorem vm:dG X (.type "list") (fun vs H Q=>∃(p:Addr)(ys:List V),vs=[.ref p]/\H p=some (.lst ys)/\∀l,H l=none->Q (.ref l) (upd H l (.lst ys))):=by
 symm;intro vs us Q I r h;obtain⟨p,ys,e,hp,q⟩:=h;exact uf ae s σ H vs us Q I r ⟨p,ys,e,.inl (cG.of hp),q⟩
theorem ik{K:Frag}{o e:Expr}{es:List Expr}{to:TE}{t:TA}{name:Str}{apos cpos:Pos}{T id:String}{r:V->List V->Hp->VK->Prop}(hK:X.K=K)(pa:PlainAttrs T)(slot:Slot T name id)(hty:typeOf (.builtin id)=pure (.type "method_descriptor"))(hm:MtR X id r)(ho:PE X o to)(ha:PA X (e::es) t)
  (hbase: ~~~(attributeBase o name X.env (eval o X.env)=eval o X.env))
  (hfew: ~~~(((backTo cpos (starEach (e::es) X.env)).all (fun x=>!x.1)&&(backToKw cpos (keywordEach [] X.env)).all (fun x=>x.1.isSome)&&decide ((e::es).length+([]:List Keyword).length+(if([]:List Keyword).isEmpty then 0 else 1)<30))=true))
  (hline: ~~~((apos.endLine==cpos.line)=true)) (hs: ~~~(starEach (e::es) X.env=(false,eval e X.env)::starEach es X.env)) (hplain: ~~~((backTo cpos (starEach es X.env)).any (·.1)=false)):PE X (.Call (.Attribute o name apos) (e::es) [] cpos) (tBM K T r to t):=by
 subst hK;exact acx pa slot hty hm ho ha hbase hfew hline hs hplain
end
theorem Jv:isSubtype (.type "range_iterator") (.type "reversed")=pure false:=by rw[isSubtype_type]; kernel_rfl
section
variable{prog:AC}{w:World}{A:Around}{E:AA->AB->Prop}{s:AB}
def yj(n:Int):Obj:={ cls:=.type "range_iterator",data:=.fields #[rawInt (n-1),rawInt n,rawInt (-1)] }
theorem zR{r:Addr}{n:Int}{t u v:Tok}{Q:AA->AB->Prop}(hr:IsRange s.heap r 0 n 1 t u v)(h0:0<=n)(h1:n<2 ^ 62)(h:Q (.ref s.heap.objs.size) { s with heap:=s.heap.push (yj n) }) :
  wpAny (model prog w) A (call (.builtin "range.__reversed__") [.ref r]) Q E s:=by
 have hT:s.TypeIs (.ref r) "range" := ⟨_,hr,rfl⟩;refine Ah PySem.F.slot_range_reversed hT PySem.F.entry_range_reversed ?_ (PySem.F.args_range_reversed_1 _);unfold Builtin.«range.__reversed__»;refine bh (yq (a:=Value.ref r) rfl ?_)
 have rf:∀{R:Int×Int×Int->AB->Prop},R (0,n,1) s->wpAny (model prog w) A.in1 (Builtin.Range.rangeFields (.ref r)) R E s:=fun {R} hR=>by
  unfold Builtin.Range.rangeFields;refine bh (iH hr rfl (x:=.int 0 t) rfl (bh (yq (a:=some (0:Int)) rfl ?_)));refine bh (iH hr rfl (x:=.int n u) rfl (bh (yq (a:=some n) rfl ?_)));exact bh (iH hr rfl (x:=.int 1 v) rfl (bh (yq (a:=some (1:Int)) rfl (cH hR))))
 refine bh (rf ?_);dsimp only;have sz:Builtin.Range.rangeSize 0 n 1=n:=by rw[rangeSize_one]; split <;> omega
 rw[sz]
 have sm:(Builtin.Range.rangeFitsLong 0&&Builtin.Range.rangeFitsLong n&&Builtin.Range.rangeFitsLong 1&&Builtin.Range.rangeFitsLong (-1)&&Builtin.Range.rangeFitsLong (0-1)&&Builtin.Range.rangeFitsLong n)=true:=by
  have:Builtin.Range.rangeFitsLong n=true:=by simp only[Builtin.Range.rangeFitsLong,GP,decide_eq_true_eq]; omega
  rw[this]; decide
 rw[sm];simp only[Bool.not_true,Ai,if_false,if_true];have e1:(0+(n-1)*1:Int)=n-1:=by omega
 rw[e1];exact bh (uU (cH ⟨_,rfl,h⟩))
theorem zO{r:Addr}{n:Int}{t u v:Tok}{Q:AA->AB->Prop}(hr:IsRange s.heap r 0 n 1 t u v)(h0:0<=n)(h1:n<2 ^ 62)(h:Q (.ref s.heap.objs.size) { s with heap:=s.heap.push (yj n) }) :
  codeAny (model prog w) A (.call (.builtin "reversed.__new__") ⟨[.type "reversed",.ref r],[]⟩) (wants Q E) s:=by
 have hT:s.TypeIs (.ref r) "range" := ⟨_,hr,rfl⟩;refine codeAny_of_tree ?_;show wpAny _ A.in1 (do checkBuiltinCall "reversed.__new__" ⟨[.type "reversed",.ref r],[]⟩; again (.builtin "reversed.__new__" ⟨[.type "reversed",.ref r],[]⟩)) _ _ s
 refine bh (yq (F.newCall_reversed_1 (.ref r)) (cH ⟨plainId_quiet F.plain_reversed_new _,codeAny_builtin F.entry_reversed_new ?_⟩));rw[Around.under_plainId F.plain_reversed_new _];unfold Builtin.«reversed.__new__»;refine bh (yq (newClass_reversed (.ref r)) ?_); (try dsimp only)
 refine bh (yq (a:=()) rfl (bh (yq (a:=()) rfl ?_)));refine bh (wpAny_specialOf hT PySem.F.slot_range_reversed.lookup ?_); (try dsimp only)
 refine bh (yq (PySem.F.slot_range_reversed.bind _) ?_); (try dsimp only)
 rw[aQ (show ¬((Value.builtin "range.__reversed__" == Value.none)=true) from lg)];refine bh (Ae (bh (m:=runValue (.call (.builtin "range.__reversed__") ⟨[.ref r],[]⟩)) (show wpAny _ _ (call (.builtin "range.__reversed__") [.ref r]) _ _ _ from zR hr h0 h1 ?_)))
 first
  | exact cH h
  | exact bh (cH (cH h))
theorem zQ{r:Addr}{n:Int}{t u v:Tok}{Q:AA->AB->Prop}(hr:IsRange s.heap r 0 n 1 t u v)(h0:0<=n)(h1:n<2 ^ 62)(h:Q (.ref s.heap.objs.size) { s with heap:=s.heap.push (yj n) }) :
  wpAny (model prog w) A (call (.type "reversed") [.ref r]) Q E s:=by
 refine callType_other (U:="range_iterator") (Q₁:=fun obj z=>obj=.ref s.heap.objs.size/\z={ s with heap:=s.heap.push (yj n) }) (by decide +kernel) F.create_reversed ⟨_,_,F.mro_reversed⟩ F.made_reversed Jv (F.typeCall_reversed_1 _) (zO hr h0 h1 ⟨rfl,rfl⟩) ?_
 rintro obj z ⟨rfl,rfl⟩;exact⟨⟨_,dI _ rfl,rfl⟩,h⟩
end
def Itv(n:Nat):It:=⟨fun i _=>i<n,fun i H x H'=>H'=H/\x=.int ((n:Int)-1-i),fun i _=>n<=i⟩
theorem Rb{P:AC}{w:World}{K:Frag}{tg:Expr}(it:Addr)(n:Nat):Turn P w K tg (Itv n) [it] it (fun i h=>IsRangeIter h it ((n:Int)-1+(i:Nat)*(-1)) ((n:Int)-(i:Nat)) (-1)) where
 mem:=by simp
 obj:=fun i h st b hb=>by
  rw[iU.mp hb]
  exact⟨_,st,fun v z=>by
   have z':Data.fields _=Data.cell v:=z
   cases z'⟩
 keep:=fun i h h' st k=>k it (by simp) _ st
 item:=by
  intro X hP hw hK hc i ae s σ H E I hf st hg;subst hP hw hK;obtain⟨f0,f1,f2,f3,f4,f5⟩:=hf it (by simp)
  have W:=Walks.range (prog:=X.prog) (w:=X.w) (I.ok.hd hc) it ((n:Int)-1) (-1) n;refine W.item i s _ _ hg st fun v h' tk hv st' kk=>?_;obtain⟨t,rfl⟩:=hv;have I1:Inv X ae σ H { s with heap:=h',toks:=tk }:=I.turned (fun b o hb e=>kk b o (by simpa using hb) e) f0 f1 f3 f4 f5
  refine⟨_,rfl,Dd (s:={ s with heap:=h',toks:=tk }) (n:="range_iterator") st' rfl rfl ⋯ ⟨.int ((n:Int)-1-i),H,I1,⟨t,?_⟩,⟨rfl,rfl⟩,st',fun b hb=>(hf b hb).1⟩⟩
  congr 1
  omega
 done:=by
  intro X hP hw hK hc i ae s σ H E I hf st hg;subst hP hw hK;obtain⟨f0,f1,f2,f3,f4,f5⟩:=hf it (by simp)
  exact wpAny_pyNext_range_end (I.ok.hd hc) st (by have:n<=i:=hg; omega) fun h' eb=>⟨rfl,I.turned (t':=s.toks) (fun b o hb e=>eb b o hb e) f0 f1 f3 f4 f5⟩
 self:=fun _ _ _ _ _ st h=>RV st h
section
variable{X:Cx}
theorem IV:bootBuiltins "reversed" = some (.type "reversed"):=by decide +kernel
def acS(ta:TA):TI:=fun σ H R=>ta σ H fun vs H1=>∃n:Nat,vs=[.int n]/\n<=1000000/\R (Itv n) H1
theorem ZM{tg a:Expr}{p p2 pos pos2:Pos}{ta:TA}(hm:X.mg "reversed" = none)(hm2:X.mg "range" = none)(ha:PA X [a] ta)(hg: ~~~(Gl X "reversed"))(hg2: ~~~(Gl X "range"))(h1: ~~~(b7 a=true)) :
  PI X tg (.Call (.Name "reversed" p) [.Call (.Name "range" p2) [a] [] pos2] [] pos) (acS ta):=by
 symm;intro R I h;refine uV (jy I hg hm IV ?_ ⋯ ⋯)
 refine PyProof.Rows.callWith_type1 ?_ (cC rfl) (cL (es:=[]) rfl);rw[cC (e:=.Call (.Name "range" p2) [a] [] pos2) rfl];show wpAny _ _ (spliced ((false,eval (.Call (.Name "range" p2) [a] [] pos2) X.env)::backTo pos (starEach [] X.env))) _ _ s;refine Calls.spliced_cons ?_;refine uV (jy I hg2 hm2 Ur ?_ ⋯ ⋯)
 refine PyProof.Rows.callWith_type1 (cT (ha pos2 ae s σ H _ I h) fun us s1 ⟨vs,H1,I1,r1,n,e,hn,q⟩=>?_) (cC h1) (cL (es:=[]) rfl);subst e;obtain⟨u,rfl,t,rfl⟩:=r1.one;refine call_range_1 ?_;refine Calls.spliced_nil ?_;refine zQ (IsRange.new ..) ∅ ∅ ?_
 have k2:∀b o,s1.heap.get? b=some o->((s1.heap.push { cls:=.type "range",data:=.fields #[.int 0 s1.toks,.int (n:Int) t,.int 1 (s1.toks+1)] }).push (yj n)).get? b=some o:=fun b o e=>eF _ (eF _ e);have I2:=I1.kept (t':=s1.toks+1+1) k2;generalize hh:s1.heap.push { cls:=.type "range",data:=.fields #[.int 0 s1.toks,.int (n:Int) t,.int 1 (s1.toks+1)] }=h1' at I2 ⊢;have sz:s1.heap.objs.size<=h1'.objs.size:=by rw[<- hh,iW]; exact Ci _
 have st:IsRangeIter (h1'.push (yj n)) h1'.objs.size ((n:Int)-1+((0:Nat):Int)*(-1)) ((n:Int)-((0:Nat):Int)) (-1):=by
  have e1:(n:Int)-1+((0:Nat):Int)*(-1)=(n:Int)-1:=by simp
  have e2:(n:Int)-((0:Nat):Int)=n:=by simp
  rw[e1,e2];exact dI _ rfl
 refine RV (s:={ s1 with heap:=h1'.push (yj n),toks:=s1.toks+1+1 }) (by exact st) ⟨h1'.objs.size,[h1'.objs.size],_,Itv n,H1,rfl,I2,Rb _ n,st,fun b hb=>?_,q⟩
 rw[iU.mp hb];exact I1.tY sz (I1.hok.fresh sz)
def VK'(g:TG)(tb:TS)(D:Ends)(σ:St)(vs:List V)(H1:Hp):Prop:=∃n:Nat,vs=[.int n]/\n<=1000000/\∃W:Nat->Nat->St->Hp->Prop,(∃m,W 0 m σ H1)/\∀i m σ H,W i m σ H ->
 ((Itv n).stop i H/\D.nx σ H)\/((Itv n).go i H/\∃N:St->Hp->Prop,(∀σ' H',N σ' H'->∃m',m'<m/\W (i+1) m' σ' H')/\∀x H',(Itv n).Gf i H x H'->g x σ H' fun σ2 H2=>tb { D with nx:=N,ct:=N,bk:=D.nx } σ2 H2)
theorem Rh{ta:TA}{g:TG}{tb:TS}{D:Ends}{σ:St}{H:Hp}:Jt (acS ta) g tb D σ H=ta σ H (VK' g tb D σ):=rfl
theorem VK'.of{g:TG}{tb:TS}{D:Ends}{σ:St}{H:Hp}{n:Nat}{i:Int}(ei:i=n)(hn:n<=1000000)(Pv:Nat->St->Hp->Prop)(h0:Pv 0 σ H)
  (hs:∀i σ H,i<n->Pv i σ H->g (.int ((n:Int)-1-(i:Nat))) σ H fun σ2 H2=>tb { D with nx:=Pv (i+1),ct:=Pv (i+1),bk:=D.nx } σ2 H2) (hd:∀σ H,Pv n σ H->D.nx σ H):VK' g tb D σ [.int i] H:=by
 subst ei;refine⟨n,rfl,hn,fun i m σ H=>m=n-i/\i<=n/\Pv i σ H,⟨n,rfl,gU _,h0⟩,?_⟩;rintro i m σ H ⟨rfl,hi,p⟩;by_cases hlt:i<n
 ·refine .inr ⟨hlt,Pv (i+1),fun σ' H' p'=>⟨n-(i+1),∅,rfl,hlt,p'⟩,fun x H' y=>?_⟩
  obtain⟨e1,e2⟩:=y;subst e1 e2;exact hs i σ _ hlt p
 ·have e:i=n:=by omega
  subst e;exact .inl ⟨bJ _,hd σ H p⟩
end
structure Li(K:Frag)(x qual:Str)(st:Stmt)(f:Addr)(fd:FuncData)(T:Addr)(i:Int)(t:Tok):Prop where
 ex:∃(oc:AA)(od:Option Addr)(kV doc pm:AA)(an:Option Addr)(cdv ct:AA)(osl:Array (Option AA)),
  fd=fnOf x qual (cJ st) (b8 st) (aK st) (.ref T) kV doc pm an cdv ct/\K.lookup f=some ⟨oc,od,.func fd,osl⟩/\codeIn K cdv qual=true
 kp:keepIn K (.ref f)=true
 df:∃o n,K.lookup T=some o/\o.data=.seq #[.int i t] n
section
variable{P:AC}{w:World}{K:Frag}{mg:Str->Option AA}{base:Heap}
theorem Li.ok{x qual:Str}{st:Stmt}{f T:Addr}{i:Int}{t:Tok}{fd:FuncData}{N ps:List Str}{k:Nat}{sp:Sp}(F:Li K x qual st f fd T i t)(S:bf N ps (aK st))(len: autoParam (∀vs H Q E,sp vs H Q E->vs.length=ps.length) zg._auto_1)
  (hbody:∀(cdv:AA)(A:Around)(outer:List Env)(s:AB)(H:Hp)(vs:List V)(Q:VK)(E:XK),fU k (A.deeper (envOfC qual (aK st) s.heap.objs.size f cdv))->sp vs H Q E ->
   ∃t,Dw (iC gQ P w K mg base N qual (aK st) f cdv A outer s H E).nox (b8 st) t/\t { nx:=fun _ H'=>Q .non H',rt:=Q } (start N vs) H):bI P w K mg base gQ (k+1) f fd ps sp:=by
 obtain⟨oc,od,kV,doc,pm,an,cdv,ct,osl,rfl,lk,hcd⟩:=F.ex;exact Yo lk hcd S len fun A outer s H vs Q E hr hsp=>let ⟨t,h,q⟩:=hbody cdv A outer s H vs Q E hr hsp; ⟨t,h.nox,q⟩
theorem Li.binds{x qual:Str}{st:Stmt}{f T:Addr}{i:Int}{t:Tok}{fd:FuncData}{ps:List Str}{ds:List AA}(F:Li K x qual st f fd T i t)
  (h:∀(kV doc pm:AA)(an:Option Addr)(cdv ct:AA)(us:List AA),(us++ds).length=ps.length->∃k,bindArgs (fnOf x qual (cJ st) (b8 st) (aK st) (.ref T) kV doc pm an cdv ct) ⟨us,[]⟩=seqItems? (.ref T) >>= k/\k (some #[.int i t])=pure (ps.zip (us++ds))):Binds K fd ps ds:=by
 obtain⟨oc,od,kV,doc,pm,an,cdv,ct,osl,rfl,lk,hcd⟩:=F.ex;obtain⟨o,n,ho,hd⟩:=F.df;intro s us KX hl;obtain⟨k,h1,h2⟩:=h kV doc pm an cdv ct us hl;exact BindsTo.of_defaults rfl (KX _ _ ho) hd h1 h2
end
structure Vb(P:AC)(w:World)(K:Frag)(mg:Str->Option AA)(base:Heap)(k:Nat)(x:Str)(ps:List Str)(i:Int)(sp:Sp) where
 f:Addr
 fd:FuncData
 t:Tok
 G:bI P w K mg base gQ k f fd ps sp
 kp:keepIn K (.ref f)=true
 b:Binds K fd ps []
 bd:Binds K fd ps [.int i t]
 m:mg x=some (.ref f)
def Vb.mono{P:AC}{w:World}{K:Frag}{mg:Str->Option AA}{base:Heap}{j k:Nat}{x:Str}{ps:List Str}{i:Int}{sp:Sp}(c:Vb P w K mg base j x ps i sp)(h:j<=k):Vb P w K mg base k x ps i sp:={ c with G:=c.G.mono h }
section
variable{X:Cx}{x:Str}{p pos:Pos}{e:Expr}{es:List Expr}{t:TA}
theorem pfa{k:Nat}{ps:List Str}{i:Int}{sp:Sp}(c:Vb X.prog X.w X.K X.mg X.base k x ps i sp)(hr:fU k X.A)(ha:PA X (e::es) t)(hg: ~~~(Gl X x))(hdb:((x==("__debug__" : Str))=false)⁻¹)(h1: ~~~(b7 e=true))(h2: ~~~(es.all b7=true)) :
  PE X (.Call (.Name x p) (e::es) [] pos) (nJ sp [] E0 t):=Mz c.G hr hg c.m c.kp c.b .nil Hx ha hdb (cC h1) (cL h2)
end
end _L
theorem Uu(a b c:PySem.Value):PySem.argsOk "list.insert" ⟨[a,b,c],[]⟩:=PySem.F.args_list_insert_3 a b c
theorem T9{j:Int}(h1:-(2 ^ 63:Int)<=j)(h2:j<2 ^ 63):¬(!PySem.Builtin.List.listFitsIndex j)=true:=by
 unfold PySem.Builtin.List.listFitsIndex;rw[jF h1,jF h2];decide
namespace _L
open PySem PySem.Spec PyProof.Rows
section
variable{X:Cx}
end
def LK(K:Frag)(g:TG)(tb:TS)(D:Ends)(σ:St)(x:V)(H1:Hp):Prop:=∃a,x=.ref a/\(∃xs,cG K H1 a xs)/\∃W:Nat->Nat->St->Hp->Prop,(∃m,W 0 m σ H1)/\∀i m σ H,W i m σ H ->
 ((YF K a).stop i H/\D.nx σ H)\/((YF K a).go i H/\∃N:St->Hp->Prop,(∀σ' H',N σ' H'->∃m',m'<m/\W (i+1) m' σ' H')/\∀x H',(YF K a).Gf i H x H'->g x σ H' fun σ2 H2=>tb { D with nx:=N,ct:=N,bk:=D.nx } σ2 H2)
theorem oH{K:Frag}{tl:TE}{g:TG}{tb:TS}{D:Ends}{σ:St}{H:Hp}:Jt (lE K tl) g tb D σ H=tl σ H (LK K g tb D σ):=rfl
theorem LK.of{K:Frag}{g:TG}{tb:TS}{D:Ends}{σ:St}{H:Hp}{a:Addr}{xs:List V}(ha:H a=some (.lst xs))(Pv:Nat->St->Hp->Prop)(h0:Pv 0 σ H)(hl:∀i σ H',i<=xs.length->Pv i σ H'->H' a=some (.lst xs))
  (hs:∀i x σ H,xs[i]?=some x->Pv i σ H->g x σ H fun σ2 H2=>tb { D with nx:=Pv (i+1),ct:=Pv (i+1),bk:=D.nx } σ2 H2) (hd:∀σ H,Pv xs.length σ H->D.nx σ H):LK K g tb D σ (.ref a) H:=
 ⟨a,rfl,⟨xs,cG.of ha⟩,T4 (xs:=xs) Pv h0 (fun i σ H' hi p=>cG.of (hl i σ H' hi p)) hs hd⟩
theorem LK.ofN{K:Frag}{g:TG}{tb:TS}{D:Ends}{σ:St}{H:Hp}{a:Addr}{xs:List V}(ha:H a=some (.lst xs))(Pv:Nat->St->Hp->Prop)(h0:Pv 0 σ H)(hl:∀i σ H',i<=xs.length->Pv i σ H'->H' a=some (.lst xs))
  (hs:∀i x σ H,xs[i]?=some x->Pv i σ H->∀N:St->Hp->Prop,(∀σ' H',Pv (i+1) σ' H'->N σ' H')->g x σ H fun σ2 H2=>tb { D with nx:=N,ct:=N,bk:=D.nx } σ2 H2) (hd:∀σ H,Pv xs.length σ H->D.nx σ H):LK K g tb D σ (.ref a) H:=LK.of ha Pv h0 hl (fun i x σ H hx p=>hs i x σ H hx p _ fun _ _ h=>h) hd
end _L
namespace _L
open PySem
mutual
def uy:PyData->Bool
 | .tuple ds=>bH ds
 | .list _=>false
 | .dict _=>false
 | .none=>true
 | .bool _=>true
 | .int _=>true
 | .str _=>true
def bH:List PyData->Bool
 | []=>true
 | d::ds=>uy d&&bH ds
end
theorem bC:∀{ds:List PyData},bH ds=true↔∀d∈ds,uy d=true
 | []=>by simp[bH]
 | d::ds=>by
  have ih:=bC (ds:=ds);simp only[bH,GP,ih,bN,forall_eq_or_imp]
mutual
theorem At.Ay{G:Hp}{p:Addr}{xs:List V}(hp:G p=some (.lst xs)):∀(d:PyData)(v:V),uy d=true->At G d v->At (hid p G) d v
 | .none,_,_,h=>by unfold At at h ⊢; exact h
 | .bool _,_,_,h=>by unfold At at h ⊢; exact h
 | .int _,_,_,h=>by unfold At at h ⊢; exact h
 | .str _,_,_,h=>by unfold At at h ⊢; exact h
 | .tuple ds,v,n,h=>by
  unfold At at h ⊢;obtain⟨a,ys,e,h1,h2⟩:=h;refine⟨a,ys,e,?_,aj.Ay hp ds ys (by simpa[uy] using n) h2⟩
  rw[cP (fun z=>by subst z; rw[hp] at h1; cases h1)]; exact h1
 | .list _,_,n,_=>by simp[uy] at n
 | .dict _,_,n,_=>by simp[uy] at n
theorem aj.Ay{G:Hp}{p:Addr}{xs:List V}(hp:G p=some (.lst xs)):∀(ds:List PyData)(ys:List V),bH ds=true->aj G ds ys->aj (hid p G) ds ys
 | [],_,_,h=>by unfold aj at h ⊢; exact h
 | d::ds,ys,n,h=>by
  unfold aj at h ⊢;obtain⟨x,r,e,h1,h2⟩:=h;have n':uy d=true/\bH ds=true:=by simpa[bH] using n
  exact⟨x,r,e,At.Ay hp d x n'.1 h1,aj.Ay hp ds r n'.2 h2⟩
end
theorem xH:∀l:List Int,(∀c∈l,0<=c)->0<=l.sum
 | [],_=>by simp
 | x::l,h=>by rw[Af]; have:=xH l fun c hc=>h c (jb _ hc); have:=h x iK; omega
theorem C_:∀ws:List Int,PyData.hasDictAll (ws.map .int)=false/\PyData.canLayAll0 (ws.map .int)=true/\PyData.depthAll (ws.map .int)=0
 | []=>⟨rfl,rfl,rfl⟩
 | w::ws=>by
  obtain⟨h1,h2,h3⟩:=C_ ws;refine⟨?_,?_,?_⟩
  ·show(PyData.hasDict (.int w) || PyData.hasDictAll (ws.map .int))=false;rw[h1]; rfl
  ·show(PyData.canLay0 (.int w)&&PyData.canLayAll0 (ws.map .int))=true;rw[h2]; rfl
  ·show max (PyData.depth (.int w)) (PyData.depthAll (ws.map .int))=0;rw[h3]; rfl
theorem Wz{xs ys:List V}{p q:Addr}{H:Hp}{Q:VK}(e:H p=some (.lst xs))(e2:H q=some (.tup ys))(z:xs.length+ys.length<=sizeLine)(k:∀r H',aL H H'->H' r=some (.lst (xs++ys))->Q (.ref r) H') :
  ∃p_2 ys',[V.ref q]=[V.ref p_2]/\H p_2=some (.tup ys')/\∀l,H l=none->Ox (.ref p) (.ref l) (upd H l (.lst ys')) Q:=by
 refine⟨q,ys,rfl,e2,fun l hl=>?_⟩;have s1:=aP hl (HO.lst ys);refine⟨p,l,xs,ys,rfl,rfl,s1 _ _ e,aB,z,fun r hr=>?_⟩;exact k r _ (s1.trans (aP hr _)) aB
theorem take_snoc{α:Type}{l:List α}{i:Nat}{c:α}(h:l[i]?=some c):l.take (i+1)=l.take i++[c]:=by
 obtain⟨hi,e⟩:=iY.mp h;rw[List.take_succ_eq_append_getElem hi,e]
theorem SX.same{p:Addr}{H H':Hp}(hp:H p=none)(s:SX p H H'):aL H H':=fun b o h=>by
 have hb:b≠p:=fun z=>by rw[z,hp] at h; cases h
 exact s.get hb h
theorem Cv{ts:List Str}{i:Int}(h0:0<=i)(h1:i<ts.length):∃t,t∈ts/\zV (ts.map V.str) i=some (.str t):=by
 have hi:i.toNat<ts.length:=by omega
 refine⟨ts[i.toNat],tE hi,?_⟩;have:=aV (xs:=ts.map V.str) (j:=i.toNat) (v:=.str ts[i.toNat]) (by rw[cM,dC hi]; rfl)
 rwa [show((i.toNat:Nat):Int)=i by omega] at this
theorem qi{ts:List Int}{i:Int}(h0:0<=i)(h1:i<ts.length):∃t,t∈ts/\zV (ts.map V.int) i=some (.int t):=by
 have hi:i.toNat<ts.length:=by omega
 refine⟨ts[i.toNat],tE hi,?_⟩;have:=aV (xs:=ts.map V.int) (j:=i.toNat) (v:=.int ts[i.toNat]) (by rw[cM,dC hi]; rfl)
 rwa [show((i.toNat:Nat):Int)=i by omega] at this
def gR(a b:TS):TS:=qP a b
theorem sO(i:Nat){e:TE}{b:TS}:qP (DP e (eO i)) b=gR (DP e (eO i)) b:=rfl
theorem xO{c:TT}{x y b:TS}:qP (Vo c x y) b=gR (Vo c x y) b:=rfl
theorem gR.of{a b:TS}{D:Ends}{σ:St}{H:Hp}(R:St->Hp->Prop)(hR:∀σ' H',R σ' H'->b D σ' H')(h:∀N:St->Hp->Prop,(∀σ' H',R σ' H'->N σ' H')->a { D with nx:=N } σ H):gR a b D σ H:=h _ hR
theorem acO{α:Type}{l:List α}(h:l.length=3):∃a b c,l=[a,b,c]:=by
 match l,h with
 | [a,b,c],_=>exact⟨a,b,c,rfl⟩
theorem WL{α:Type}{l:List α}(h:l.length=5):∃a b c d e,l=[a,b,c,d,e]:=by
 match l,h with
 | [a,b,c,d,e],_=>exact⟨a,b,c,d,e,rfl⟩
theorem aL.eZ{H H':Hp}{p:Addr}{o:HO}(s:aL H H')(hp:H p=none):aL H (upd H' p o):=fun b u h=>by rw[aJ (cB h hp)]; exact s _ _ h
def CV:PyData->Bool
 | .list _=>true
 | _=>false
theorem M7(K:Frag)(d:PyData):kitOne K (.type (UT d)) (.type "list")=some (CV d):=by cases d <;> kernel_rfl
theorem Nk{X:Cx}:dG X (.builtin "isinstance") (JL "list" CV):=zf M7
theorem rK{ds:List PyData}(h:bH ds=true){i:Nat}{d:PyData}(e:ds[i]?=some d):uy d=true:=bC.mp h d (dz e)
theorem Xd{K:Frag}{js:List Nat}{a:Addr}{xs:List V}{es:List PyData}{tl te:TE}{σ:St}{H:Hp}{Q:VK}(hl:∀R:VK,R (.ref a) H->tl σ H R)(ha:H a=some (.lst xs))(hn:es.length=xs.length)(hz:es.length<=sizeLine)(hL:bH es=true)
  (step:∀(i:Nat) x e H',xs[i]?=some x->es[i]?=some e->aL H H'->∀R:VK,(∀v bO,aL H' bO->At bO e v->R v bO)->te (some x::bR js σ) H' R)
  (fin:∀acc ys H',aL H H'->H acc=none->H' acc=some (.lst ys)->aj (hid acc H') es ys->Q (.ref acc) H'):iw js (lE K tl) te σ H Q:=by
 refine hl _ ⟨a,rfl,⟨xs,cG.of ha⟩,fun acc hacc=>?_⟩;refine⟨fun i m ys H2=>m=es.length-i/\i<=es.length/\aj (hid acc H2) (es.take i) ys/\aL H H2/\H2 acc=some (.lst ys),⟨_,rfl,gU _,aj.nil,aP hacc _,aB⟩,?_⟩;rintro i m ys H2 ⟨rfl,hi,hA,sm,hy⟩;have ht:cG K H2 a xs:=cG.of (sm _ _ ha);by_cases hlt:i<es.length
 ·refine .inr ⟨⟨xs,xs[i]'∅,ht,dC ∅⟩,fun x H3 y=>?_⟩
  obtain⟨e,y⟩:=y;subst e;have e1:es[i]?=some es[i]:=dC hlt;refine step i x _ _ (y xs ht) e1 sm _ fun v H4 s4 a4=>⟨s4 _ _ hy,?_,es.length-(i+1),∅,rfl,hlt,?_,?_,aB⟩
  ·rw[hA.length,k_]; omega
  ·rw[nC,Cm,e1];exact aj.append (hA.mono (aL.hid s4)) (aj.cons (At.Ay (s4 _ _ hy) _ _ (rK hL e1) a4) aj.nil)
  ·refine fun b o q=>?_;have nb:b≠acc:=cB q hacc;rw[aJ nb];exact s4 _ _ (sm _ _ q)
 ·have e:i=es.length:=by omega
  subst e;rw[pH] at hA;exact .inl ⟨⟨xs,ht,∅⟩,fin _ _ _ sm hacc hy hA⟩
end _L
namespace _L
open PySem PySem.Spec PyProof.Rows
section
variable{X:Cx}
end
structure oA(X:Cx)(nt:Nat)(N':List Str)(js:List Nat)(sc:Scope):Prop where
 kind:sc.kind=.function
 nq:∀y∈sc.names,y.2≠.cell
 names:∀y∈sc.names,y.2=.local->sc.names.lookup y.1=some .local
 clos:closureFor sc X.env=pure (rT sc X.env)
 all:(sc.names.all fun y=>y.2 != .free || (X.env.cells.lookup y.1).isSome)=true
 len:N'.length=nt+js.length
 cap:∀(i j:Nat),js[i]?=some j->N'[nt+i]?=X.N[j]?
 Uj:∀y∈N'.drop nt,X.env.kindOf y=some .cell/\sc.names.lookup y=some .free
theorem ue:∀(names:List (Str×NameKind))(h:Heap)(acc:List (Str×Addr))(x:Str)(c:Addr),(cellsFrom h.objs.size names acc).lookup x=some c->((pushCells h names).IsCell c none/\h.objs.size<=c)\/(acc.lookup x=some c/\(x,NameKind.cell)∉names)
 | [],h,acc,x,c,e=>.inr ⟨e,by simp⟩
 | (name,kind)::r,h,acc,x,c,e=>by
  unfold cellsFrom at e;unfold pushCells;split at e
  ·rename_i hk;have hk':kind=.cell:=by simpa using hk
   rw[aX hk];have:=ue r (h.push { cls:=.type "cell",data:=.cell none }) ((name,h.objs.size)::acc) x c (by rw[iW]; exact e)
   rw[iW] at this;rcases this with⟨z,z'⟩ | ⟨z,z'⟩
   ·exact .inl ⟨z,∅⟩
   ·rw[rn] at z;cases hx:x==name with
    | true=>
     rw[hx] at z;cases z;refine .inl ⟨?_,bJ _⟩;exact⟨_,pushCells_keeps r _ _ _ (dI _ rfl),rfl⟩
    | false=>
     rw[hx] at z;refine .inr ⟨z,fun m=>?_⟩;rcases bN.mp m with q | q
     ·have:x=name:=(Prod.mk.inj q).1;simp[this] at hx
     ·exact z' q
  ·rename_i hk;rw[aQ hk];rcases ue r h acc x c e with z | ⟨z,z'⟩
   ·exact .inl z
   ·refine .inr ⟨z,fun m=>?_⟩;rcases bN.mp m with q | q
    ·exact hk (by rw[<- (Prod.mk.inj q).2]; rfl)
    ·exact z' q
theorem Kz:∀(names:List (Str×NameKind))(n:Nat)(acc:List (Str×Addr)),(∀x y c,acc.lookup x=some c->acc.lookup y=some c->x=y)->(∀x c,acc.lookup x=some c->c<n) ->
  (∀x y c,(cellsFrom n names acc).lookup x=some c->(cellsFrom n names acc).lookup y=some c->x=y)/\True
 | [],n,acc,h,_=>⟨h,trivial⟩
 | (name,kind)::r,n,acc,h,hb=>by
  unfold cellsFrom;split
  ·refine Kz r (n+1) ((name,n)::acc) (fun x y c e1 e2=>?_) (fun x c e=>?_)
   ·rw[rn] at e1 e2;cases hx:x==name with
    | true=>
     rw[hx] at e1;cases e1;cases hy:y==name with
     | true=>rw[beq_iff_eq.mp hx,beq_iff_eq.mp hy]
     | false=>rw[hy] at e2; exact absurd (hb _ _ e2) (uT _)
    | false=>
     rw[hx] at e1;cases hy:y==name with
     | true=>rw[hy] at e2; cases e2; exact absurd (hb _ _ e1) (uT _)
     | false=>rw[hy] at e2; exact h x y c e1 e2
   ·rw[rn] at e;cases hx:x==name with
    | true=>rw[hx] at e; cases e; exact GR _
    | false=>rw[hx] at e; exact GZ (hb _ _ e)
  ·exact Kz r n acc h hb
theorem KC{x:Str}:∀(names:List (Str×NameKind))(n:Nat)(acc:List (Str×Addr)),((x,NameKind.cell)∈names\/(acc.lookup x).isSome=true)->((cellsFrom n names acc).lookup x).isSome=true
 | [],n,acc,h=>by
  rcases h with h | h
  ·simp at h
  ·exact h
 | (name,kind)::r,n,acc,h=>by
  unfold cellsFrom;split
  ·rename_i hk;refine KC r (n+1) _ ?_;rcases h with h | h
   ·rcases bN.mp h with q | q
    ·refine .inr ?_;rw[rn,(Prod.mk.inj q).1];simp
    ·exact .inl q
   ·refine .inr ?_;rw[rn];split
    ·rfl
    ·exact h
  ·rename_i hk;refine KC r n acc ?_;rcases h with h | h
   ·rcases bN.mp h with q | q
    ·exact absurd (by rw[<- (Prod.mk.inj q).2]; rfl) hk
    ·exact .inl q
   ·exact .inr h
theorem Fq{x:Str}{c:Addr}:∀(names:List (Str×NameKind))(n:Nat)(acc:List (Str×Addr)),(x,NameKind.cell)∉names->acc.lookup x=some c->(cellsFrom n names acc).lookup x=some c
 | [],n,acc,_,e=>e
 | (name,kind)::r,n,acc,h,e=>by
  unfold cellsFrom;split
  ·rename_i hk;refine Fq r (n+1) _ (fun m=>h (jb _ m)) ?_;rw[rn];cases hx:x==name with
   | true=>
    have hk':kind=.cell:=by simpa using hk
    exact absurd (by rw[beq_iff_eq.mp hx,hk']; exact iK) h
   | false=>exact e
  ·exact Fq r n acc (fun m=>h (jb _ m)) e
theorem qD{M:Model}{A:Around}{E:AA->AB->Prop}{s:AB}{scope:Scope}{globals:Addr}{cl:List (Str×Addr)}{qual:Str}{env:Env}{Q:Env->AB->Prop}
  (hQ:Q { scope,locals:=s.heap.objs.size,globals,cells:=cellsFrom (s.heap.objs.size+1) scope.names cl,qual,func:=none,code:=env.code,frame:=env.frame,builtins:=env.builtins } { s with heap:=pushCells (s.heap.push { cls:=.type "dict",data:=.dict #[] }) scope.names }) :
  wpAny M A (newFunctionEnv scope globals cl [] qual none .none (some env)) Q E s:=by
 simp only[newFunctionEnv,Option.isSome_some,if_true];refine bh (wpAny_alloc ?_);refine bh (wpAny_layCells _ (fun name kind cells=>by cases hkc:kind==NameKind.cell <;> simp[hkc]) _ _ _ _ ?_)
 rw[show({ s with heap:=s.heap.push { cls:=.type "dict",data:=.dict #[] } }:AB).heap.objs.size=s.heap.objs.size+1 from iW ..]
 simp only[Hj];exact bh (cH (cH hQ))
def qt(X:Cx)(N':List Str)(sc:Scope)(fp:List Addr)(s:AB)(H:Hp):Cx where
 prog:=X.prog
 w:=X.w
 K:=X.K
 mg:=X.mg
 base:=X.base
 A:=X.A
 N:=N'
 s₀:=s
 H₀:=H
 env:=compEnvC sc (cellsFrom (s.heap.objs.size+1) sc.names (rT sc X.env)) s.heap.objs.size X.env
 outer:=X.stack
 stack:=X.stack
 ex:=fp
 fn:=fun y=>sc.names.lookup y==some .cell
 calm:=X.calm
 pn:=[]
 xe:=fun _ _=>False
structure ux(X:Cx)(nt:Nat)(N':List Str)(js:List Nat)(sc:Scope):Prop where
 kind:sc.kind=.function
 cells:∀y∈sc.names,y.2=.cell->sc.names.lookup y.1=some .cell
 names:∀y∈sc.names,y.2=.local->sc.names.lookup y.1=some .local
 clos:closureFor sc X.env=pure (rT sc X.env)
 all:(sc.names.all fun y=>y.2 != .free || (X.env.cells.lookup y.1).isSome)=true
 len:N'.length=nt+js.length
 cap:∀(i j:Nat),js[i]?=some j->N'[nt+i]?=X.N[j]?
 Uj:∀y∈N'.drop nt,X.env.kindOf y=some .cell/\sc.names.lookup y=some .free
theorem CZ{X:Cx}{ae:LA}{σ:St}{H:Hp}{s:AB}{fp:List Addr}{N':List Str}{js:List Nat}{sc:Scope}{nt:Nat}{h1:Heap}{tk:Nat}(I:Inv X ae σ H s)(hf:∀b∈fp,gB X ae H b)(hlt:∀b∈fp,b<s.heap.objs.size)
  (S:ux X nt N' js sc) (Ft:∀{x:Str}{c:Addr},(cellsFrom (s.heap.objs.size+1) sc.names (rT sc X.env)).lookup x=some c->(h1.IsCell c none/\s.heap.objs.size<c)\/((rT sc X.env).lookup x=some c/\(x,NameKind.cell)∉sc.names)) (hn:h1.Ns s.heap.objs.size fun _=>none) (hk:∀b o,s.heap.get? b=some o->h1.get? b=some o):Inv (qt X N' sc fp s H) [] (List.replicate nt none++bR js σ) H { s with heap:=h1,toks:=tk }:=by
 have old:∀x c,(rT sc X.env).lookup x=some c->c<s.heap.objs.size+1:=fun x c e=>by
  obtain⟨v,o,ho,_⟩:=I.cell x c (je e);exact GZ (bV ho)
 refine⟨⟨I.ok.mod,S.kind,I.ok.glob,I.ok.blt,bJ _,fun x y c e1 e2=>(Kz sc.names _ _ (fun x y c e1 e2=>I.ok.inj x y c (je e1) (je e2)) old).1 x y c e1 e2,fun x hx=>?_,fun x c hf' e=>(by
   rcases Ft e with z | ⟨_,z⟩
   ·exact jE z.2
   ·exact absurd (PySem.mem_of_lookup (show sc.names.lookup x=some .cell from by simpa using(show(sc.names.lookup x==some NameKind.cell)=true from hf'))) z),I.ok.hd,I.ok.frames,.inl rfl,fun b hb=>⟨fG (hlt b hb),fun x c e=>(by
   rcases Ft e with z | ⟨z,_⟩
   ·exact Eb (Hh (hlt b hb) z.2)
   ·exact(hf b hb).2.2.2.2.1 x c (je z))⟩,I.bs,
  lW I.ok.Qw I.sz,fun b o e hb=>?_,fun b hb z=>?_,I.stack,I.wU⟩,rfl,I.bare,Un.kept hk,⟨fun _=>none,hn,fun i x v e1 e2 e3=>?_⟩,fun x c e=>?_,I.hok.fresh (bJ _),fun x c e=>(by
   rcases Ft e with z | ⟨z,_⟩
   ·exact I.hok.fresh (jE z.2)
   ·exact I.j_ x c (je z)),fun p hp=>absurd (show p∈([]:LA) from hp) (by simp),I.hok.kept hk,?_⟩
 ·refine O1.mp (KC sc.names _ _ ?_);have hx':(relabel sc X.env).names.lookup x=some .cell\/(relabel sc X.env).names.lookup x=some .free:=hx
  have key:(x,NameKind.cell)∈sc.names\/(x,NameKind.free)∈sc.names:=by
   rcases hx' with q | q
   ·obtain⟨k,hm,e | ⟨e,_⟩⟩:=vQ q
    ·rw[<- e] at hm; exact .inl hm
    ·refine .inr ?_; rw[<- e]; exact hm
   ·refine .inr ?_;obtain⟨k,hm,e | ⟨e,_⟩⟩:=vQ q
    ·rw[e]; exact hm
    ·rw[<- e]; exact hm
  rcases key with key | key
  ·exact .inl key
  have a:=qw.mp S.all _ key;have a':(X.env.cells.lookup x).isSome=true:=by simpa using a
  obtain⟨c,hc⟩:=O1.mp a';exact .inr (O1.mpr ⟨c,Ky hc sc.names [] key⟩)
 ·rcases(hf b hb).2.2.2.1 with z | z
  ·exact I.ok.HW b o e z
  ·exact absurd (pI (bV e) (lW I.ok.Qw z)) (uT _)
 ·rcases bN.mp (I.Jw b z) with q | q
  ·exact(hf b hb).2.1 q
  ·exact(hf b hb).2.2.1 q
 ·by_cases hlt:i<nt
  ·rw[JR (by rw[uW]; exact hlt),Ms,aX hlt] at e2
   cases e2
  ·obtain⟨i',rfl⟩:∃i',i=nt+i':=⟨i-nt,∅⟩
   rw[Ef (by rw[uW]; omega),uW,Nat.add_sub_cancel_left] at e2
   have e2':(bR js σ)[i']?=some (some v):=e2;unfold bR at e2';rw[cM] at e2';cases hj:js[i']? with
   | none=>rw[hj] at e2'; simp at e2'
   | some j=>
    rw[hj] at e2';have e4:(σ[j]?).join=some v:=by simpa using e2'
    have e5:σ[j]?=some (some v):=by
     cases q:σ[j]? with
     | none=>rw[q] at e4; simp at e4
     | some z=>rw[q] at e4; simp at e4; rw[e4]
    have e6:X.N[j]?=some x:=by rw[<- S.cap i' j hj]; exact e1
    have mem:x∈N'.drop nt:=by
     have e1':N'[nt+i']?=some x:=e1;exact dz (i:=i') (by rw[Ht]; exact e1')
    obtain⟨k1,k2⟩:=S.Uj x mem;obtain⟨m,_,hl⟩:=I.loc;obtain⟨u,r,l⟩:=hl j x v e6 e5 (.inr (.inl k1));refine⟨u,r,.inr ⟨.inl (tu I.ok.kind k1 sc.names k2),?_⟩⟩;rcases l with⟨z,_⟩ | ⟨_,c,hc,hcell⟩
    ·rw[k1] at z; cases z
    ·obtain⟨o,ho,hd⟩:=hcell;exact⟨c,Fq sc.names _ _ (fun z=>by have:=S.cells _ z rfl; rw[k2] at this; cases this) (Ky hc sc.names [] (PySem.mem_of_lookup k2)),o,hk c o ho,hd⟩
 ·rcases Ft e with z | ⟨z,_⟩
  ·exact⟨none,z.1⟩
  ·obtain⟨v,o,ho,hd⟩:=I.cell x c (je z);exact⟨v,o,hk c o ho,hd⟩
 ·show(List.replicate nt none++bR js σ).length=N'.length;rw[S.len]; simp[bR]
theorem N6:∀{names:List (Str×NameKind)}{n:Nat}{acc:List (Str×Addr)},(∀y∈names,y.2≠.cell)->cellsFrom n names acc=acc
 | [],_,_,_=>rfl
 | (name,kind)::r,n,acc,h=>by
  unfold cellsFrom;rw[aQ (fun z=>h _ iK (by simpa using z))]
  exact N6 fun y hy=>h y (jb _ hy)
theorem Dm{X:Cx}{N':List Str}{sc:Scope}{fp:List Addr}{s:AB}{H:Hp}(h:∀y∈sc.names,y.2≠.cell):U6 X N' sc fp s H=qt X N' sc fp s H:=by
 have e:(fun _:Str=>false)=fun y=>sc.names.lookup y==some .cell:=funext fun y=>by
  cases z:sc.names.lookup y==some NameKind.cell with
  | false=>rfl
  | true=>exact absurd rfl (h _ (PySem.mem_of_lookup (by simpa using z)))
 unfold U6 qt;rw[N6 h,e]
theorem oA.toD{X:Cx}{nt:Nat}{N':List Str}{js:List Nat}{sc:Scope}(S:oA X nt N' js sc):ux X nt N' js sc:=⟨S.kind,fun y hy e=>absurd e (S.nq y hy),S.names,S.clos,S.all,S.len,S.cap,S.Uj⟩
structure Gb(X:Cx)(ifs:List Expr)(t:TT):Prop where
 mk ::
 go:∀(ae:LA)(s:AB)(σ:St)(H:Hp)(Q:Bool->Hp->Prop),Inv X ae σ H s->t σ H Q->wpAny (model X.prog X.w) X.A (forIn ifs true fun c r=>if r=true then do let ok <- isTrue c X.env (eval c X.env); pure (ForInStep.yield ok) else pure (ForInStep.yield r)) (TP X ae σ Q) X.xe s
instance {X:Cx} {ifs:List Expr} {t:TT}:CoeFun (Gb X ifs t) (fun _=>
 ∀(ae:LA)(s:AB)(σ:St)(H:Hp)(Q:Bool->Hp->Prop),Inv X ae σ H s->t σ H Q->wpAny (model X.prog X.w) X.A (forIn ifs true fun c r=>if r=true then do let ok <- isTrue c X.env (eval c X.env); pure (ForInStep.yield ok) else pure (ForInStep.yield r)) (TP X ae σ Q) X.xe s):=⟨Gb.go⟩
def wj:TT:=fun _ H Q=>Q true H
theorem jh{X:Cx}:Gb X [] wj:=.mk fun ae s σ H Q I h=>wpAny_tests_nil ⟨H,I,h⟩
theorem Fd{X:Cx}{c:Expr}{t:TT}(h:PT X c t):Gb X [c] t:=.mk fun ae s σ H Q I q=>wpAny_tests_one (h ae s σ H Q I q)
def fP(nt:Nat)(js:List Nat)(wi:TI)(g:TG)(tc:TT)(te:TE):TE:=fun σ H Q=>wi σ H fun J H1=>∀acc,H1 acc=none->∃W:Nat->Nat->List V->Hp->Prop,(∃m,W 0 m [] (upd H1 acc (.lst [])))/\∀i m ys H2,W i m ys H2 ->
 (J.stop i H2/\Q (.ref acc) H2)\/(J.go i H2/\∀x H3,J.Gf i H2 x H3->g x (List.replicate nt none++bR js σ) H3 fun σ' H'=>(σ'.drop nt=bR js σ/\σ'.length=(List.replicate nt (none:Option V)++bR js σ).length)/\tc σ' H' fun b bO=>
  if b=true then te σ' bO fun y H4=>H4 acc=some (.lst ys)/\ys.length<sizeLine/\∃m',m'<m/\W (i+1) m' (ys++[y]) (upd H4 acc (.lst (ys++[y]))) else ∃m',m'<m/\W (i+1) m' ys bO)
theorem Fp{prog:AC}{w:World}{A:Around}{R:Result->AB->Prop}{s:AB}{elt target iter:Expr}{ifs:List Expr}{sc:Scope}{pos:Pos}{it acc:AA}{env:Env}(Iv:Nat->AB->Prop)
  (turn:∀n s,Iv n s->wpAny (model prog w) A (pyNext it) (fun r s1=>match r with
   | none=>R (.ok .next) s1
   | some v=>wpAny (model prog w) A (letOwnedTupleGo target it v) (fun _ s2=>wpAny (model prog w) A (assign target env v) (fun _ s3=>
     wpAny (model prog w) A (forIn ifs true fun c r=>if r=true then do let ok <- isTrue c env (eval c env); pure (ForInStep.yield ok) else pure (ForInStep.yield r)) (fun ok s3'=>
     if ok=true then wpAny (model prog w) A (eval elt env) (fun x s4=>
     wpAny (model prog w) A (call (.builtin "list.append") [acc,x]) (fun _ s5=>∃m,m<n/\Iv m s5) (fun _ _=>False) s4) (fun _ _=>False) s3' else ∃m,m<n/\Iv m s3') (fun _ _=>False) s3) (fun _ _=>False) s2) (fun _ _=>False) s1) (fun _ _=>False) s)
  (n:Nat) (h:Iv n s):codeAny (model prog w) A (.compLoop (.ListComp elt [⟨target,iter,ifs,0⟩] sc pos) 0 it acc env) R s:=by
 refine codeAny_loop rfl Iv (fun n s hI=>?_) n h;show wpAny _ _ ((compTurn (.ListComp elt [⟨target,iter,ifs,0⟩] sc pos) 0 it acc env).onRaise (fun x=>do noteFrame x env; theTreesLotGoes x)) _ _ s
 refine wpAny_noted ?_;rw[compTurn_list];refine bh (Ag (bh (jW (turn n s hI) (fun r s1 q1=>?_) fun _ _ f=>f.elim)));cases r with
 | none=>exact cH q1
 | some v=>
  refine bh (jW q1 (fun _ s2 q2=>?_) fun _ _ f=>f.elim);refine bh (jW q2 (fun _ s3 q3=>bh (jW q3 (fun ok s3' q3'=>?_) fun _ _ f=>f.elim)) fun _ _ f=>f.elim);cases ok with
  | false=>exact cH ⟨rfl,q3'⟩
  | true=>exact bh (bh (jW q3' (fun x s4 q4=>bh (jW q4 (fun _ s5 q5=>cH (cH ⟨rfl,q5⟩)) fun _ _ f=>f.elim)) fun _ _ f=>f.elim))
theorem zM{X:Cx}{elt iter:Expr}{tg:Expr}{ifs:List Expr}{g:TG}{tc:TT}{nt:Nat}{pos:Pos}{sc:Scope}{wi:TI}{te:TE}{N':List Str}{js:List Nat}{use:Option (AA->Sem Unit)}{Qc:AA->AB->Prop}{ae:LA}{s:AB}{σ:St}{H:Hp}{Q:VK}{kp:Pos}(hc:X.calm=true)(hi:PI X tg iter wi)(S:ux X nt N' js sc)
  (hgt:∀fp s H,PG (qt X N' sc fp s H) tg g) (hif:∀fp s H,Gb (qt X N' sc fp s H) ifs tc) (he:∀fp s H,PE (qt X N' sc fp s H) elt te) (hs:∀x,foldedSetIterable iter X.env x=pure x) (I:Inv X ae σ H s) (h:fP nt js wi g tc te σ H Q)
  (fin:∀(acc C:Addr)(H':Hp)(s':AB),Inv X ae σ H' s'->gB X ae H' C->(∃m,s'.heap.Ns C m)->Q (.ref acc) H'->compPost (model X.prog X.w) X.A X.xe use Qc (.ref acc) C (.ok .next) s') :
  wpAny (model X.prog X.w) X.A (comprehension (.ListComp elt [⟨tg,iter,ifs,0⟩] sc pos) sc X.env kp (newList []) false (eval iter X.env) use) Qc X.xe s:=by
 refine wpAny_comprehension_free (use:=use) rfl hs S.clos S.kind S.names ?_;refine cT (hi ae s σ H _ I h) fun v s1 q1=>cT q1 fun itv s2 q2=>?_;obtain⟨it,fp,tn,J,H2,e,I2,T,st2,f2,q3⟩:=q2;subst e;refine uU ?_;obtain⟨W,⟨m0,w0⟩,turn⟩:=q3 s2.heap.objs.size I2.fresh;have I3:=I2.aaf (ys:=[]) (its:=[]) (t':=s2.toks) .nil (gU _)
 have lt2:∀b∈fp,b<s2.heap.objs.size:=fun b hb=>by
  obtain⟨o,ho,_⟩:=T.obj 0 _ st2 b hb;exact bV ho
 generalize e3:({ s2 with heap:=s2.heap.push { cls:=.type "list",data:=.seq ([]:List AA).toArray },toks:=s2.toks }:AB)=s3 at I3
 have e3':({ s2 with heap:=s2.heap.push { cls:=.type "list",dict:=none,data:=.seq ([]:List AA).toArray } }:AB)=s3:=e3
 have sz3:s3.heap.objs.size=s2.heap.objs.size+1:=by rw[<- e3]; exact iW ..
 have st3:tn 0 s3.heap:=T.keep 0 _ _ st2 fun b hb o ho=>by rw[<- e3]; exact eF _ ho
 have lt3:∀b∈fp,b<s3.heap.objs.size:=fun b hb=>by rw[sz3]; exact GZ (lt2 b hb)
 have f3:∀b∈fp,gB X ae (upd H2 s2.heap.objs.size (.lst [])) b:=fun b hb=>⟨by rw[aJ (fG (lt2 b hb))]; exact(f2 b hb).1,(f2 b hb).2⟩
 generalize hH3:upd H2 s2.heap.objs.size (.lst [])=H3 at I3 f3 w0;refine qD ?_;generalize eh1:pushCells (s3.heap.push { cls:=.type "dict",data:=.dict #[] }) sc.names=h1;have hk:∀b o,s3.heap.get? b=some o->h1.get? b=some o:=fun b o q=>by rw[<- eh1]; exact pushCells_keeps _ _ b o (eF _ q)
 have hns':h1.Ns s3.heap.objs.size fun _=>none:=by rw[<- eh1]; exact(Heap.Ns.new s3.heap (.type "dict")).keeps (pushCells_keeps _ _)
 have I4:Inv (qt X N' sc fp s3 H3) [] (List.replicate nt none++bR js σ) H3 { s3 with heap:=h1,toks:=s3.toks }:=CZ I3 f3 lt3 S (fun {x c} e=>by
  have:=ue sc.names (s3.heap.push { cls:=.type "dict",data:=.dict #[] }) (rT sc X.env) x c (by rw[iW]; exact e)
  rw[eh1,iW] at this
  exact this) hns' hk
 have st4:tn 0 h1:=T.keep 0 _ _ st3 fun b hb o ho=>hk b o ho;have stat:∀{H':Hp},(∀b∈fp,H' b=none)->∀b∈fp,gB (qt X N' sc fp s3 H3) [] H' b:=fun hn b hb=>⟨hn b hb,fG (lt3 b hb),I4.ok.Ks b hb,.inl hb,(I4.ok.exf b hb).2,fun p hp=>absurd (show p∈([]:LA) from hp) (by simp)⟩
 have out:∀{σ':St}{H':Hp}{s':AB},Inv (qt X N' sc fp s3 H3) [] σ' H' s'->Q (.ref s2.heap.objs.size) H'->compPost (model X.prog X.w) X.A X.xe use Qc (.ref s2.heap.objs.size) s3.heap.objs.size (.ok .next) s':=by
  intro σ' H' s' I' q';obtain⟨m,hn,_⟩:=id I'.loc;have I5:Inv X ae σ H' s':=I3.call' I'.os I'.base I'.hok I'.bare fun b hb=>⟨(f3 b hb).2.2.2.1,(f3 b hb).2.1,(f3 b hb).2.2.2.2.1,(f3 b hb).2.2.2.2.2⟩;exact fin _ _ H' s' I5 (I3.tY (bJ _) I'.free) ⟨m,hn⟩ q'
 have loop:∀s4:AB,s4={ s3 with heap:=h1,toks:=s3.toks }->codeAny (model X.prog X.w) X.A (.compLoop (.ListComp elt [⟨tg,iter,ifs,0⟩] sc pos) 0 (.ref it) (.ref s2.heap.objs.size) (compEnvC sc (cellsFrom (s3.heap.objs.size+1) sc.names (rT sc X.env)) s3.heap.objs.size X.env))
   (compPost (model X.prog X.w) X.A X.xe use Qc (.ref s2.heap.objs.size) s3.heap.objs.size) s4:=by
  rintro s4 rfl;refine Fp (fun n s'=>∃i ys H',Inv (qt X N' sc fp s3 H3) [] (List.replicate nt none++bR js σ) H' s'/\tn i s'.heap/\(∀b∈fp,H' b=none)/\W i n ys H') ?_ m0 ⟨0,[],H3,I4,st4,fun b hb=>(f3 b hb).1,w0⟩;rintro n s5 ⟨i,ys,H5,I5,Vq,fr5,w5⟩;rcases turn i n ys H5 w5 with⟨stop,qn⟩ | ⟨go,step⟩
  ·refine cT (T.done (qt X N' sc fp s3 H3) rfl rfl rfl hc i [] s5 _ H5 (fun _ _=>False) I5 (stat fr5) Vq stop) fun r s6 qx=>?_;obtain⟨hr,I6⟩:=qx;subst hr;exact out I6 qn
  ·refine cT (T.item (qt X N' sc fp s3 H3) rfl rfl rfl hc i [] s5 _ H5 (fun _ _=>False) I5 (stat fr5) Vq go) fun r s6 qx=>?_;obtain⟨u,hr,q6⟩:=qx;subst hr;refine cT q6 fun _ s7 qx=>?_;obtain⟨y,H7,I7,r7,y7,Vp,Ym⟩:=qx;have I7':=I7.pinned (stat Ym) (T.obj _ _ Vp);refine cT (hgt fp s3 H3 _ s7 _ H7 y u _ I7' r7 (step y _ y7)) fun _ s8 qx=>?_;obtain⟨σ8,H8,I8,hsh,q8⟩:=qx;refine cT (hif fp s3 H3 _ s8 _ _ _ I8 q8) fun b s8' qx=>?_;obtain⟨H8',I8',q8'⟩:=qx
   have wk:∀k v,(List.replicate nt none++bR js σ)[k]?=some (some v)->σ8[k]?=some (some v):=fun k v e=>by
    by_cases hlt:k<nt
    ·rw[JR (by rw[uW]; exact hlt),Ms,aX hlt] at e
     cases e
    ·rw[Ef (by rw[uW]; omega),uW,<- hsh.1,Ht] at e
     rw[show nt+(k-nt)=k by omega] at e
     exact e
   cases b with
   | true=>
    rw[aX rfl] at q8' ⊢;refine cT (he fp s3 H3 _ s8' _ _ _ I8' q8') fun z s9 qx=>?_;obtain⟨vz,H9,I9,r9,ha,hz,m',hm,w9⟩:=qx;refine cT (eN (X:=qt X N' sc fp s3 H3) _ s9 _ H9 (.ref s2.heap.objs.size) [vz] (.ref s2.heap.objs.size) [z] (fun _ H'=>H'=upd H9 s2.heap.objs.size (.lst (ys++[vz]))) I9 rfl (.cons r9 .nil) ⟨_,ys,vz,rfl,rfl,ha,hz,rfl⟩) fun _ wu qx=>?_;obtain⟨_,Aa,I10,_,e10⟩:=qx;subst e10;refine⟨m',hm,i+1,ys++[vz],_,(I10.jl).weak hsh.2.symm wk,T.keep _ _ _ Vp fun b hb o e=>(I10.pin (b,o) (ju _ (ju _ (d9 hb e)))).1,fun b hb=>?_,w9⟩;obtain⟨o,e,d⟩:=T.obj _ _ Vp b hb;exact(I10.pin (b,o) (ju _ (ju _ (d9 hb e)))).2.1
   | false=>
    rw[aQ ⋯] at q8' ⊢
    obtain⟨m',hm,w9⟩:=q8';refine⟨m',hm,i+1,ys,_,(I8'.jl).weak hsh.2.symm wk,T.keep _ _ _ Vp fun b hb o e=>(I8'.pin (b,o) (ju _ (ju _ (d9 hb e)))).1,fun b hb=>?_,w9⟩;obtain⟨o,e,d⟩:=T.obj _ _ Vp b hb;exact(I8'.pin (b,o) (ju _ (ju _ (d9 hb e)))).2.1
 exact codeAny_compStart_list (loop _ rfl) (T.self X.A 0 _ _ _ st4 (loop _ rfl))
theorem R4{X:Cx}{elt iter:Expr}{tg:Expr}{ifs:List Expr}{g:TG}{tc:TT}{nt:Nat}{y:Str}{py pos spos:Pos}{sc:Scope}{wi:TI}{te:TE}{N':List Str}{js:List Nat}{i:Nat}(hN:X.N.Nodup)(hi':X.N[i]?=some y)(hy:Loc X.env.scope y)(hc:X.calm=true)(hi:PI X tg iter wi)(S:ux X nt N' js sc)
  (hgt:∀fp s H,PG (qt X N' sc fp s H) tg g) (hif:∀fp s H,Gb (qt X N' sc fp s H) ifs tc) (he:∀fp s H,PE (qt X N' sc fp s H) elt te) (hs:‹∀x,foldedSetIterable iter X.env x=pure x›) (hw: ~~~(swapsWith (.ListComp elt [⟨tg,iter,ifs,0⟩] sc pos) (some (.Name y py)) spos.line X.env=pure true))
  (hf: autoParam (X.fn y=true\/X.env.scope.names.lookup y=some .local) zd._auto_1) :
  PS X (.Assign [.Name y py] (.ListComp elt [⟨tg,iter,ifs,0⟩] sc pos) spos) (DP (fP nt js wi g tc te) (eO i)):=by
 symm;intro D I h;rw[exec_Assign_Name_used _ _ _ _ hw];refine bh (Ag (bh ?_));refine bh (zM hc hi S hgt hif he hs I h fun acc C H' s' I5 fc ⟨m,hn⟩ q=>?_)
 have ho:∀b∈[C],∃o,s'.heap.get? b=some o/\∀v,o.data≠.cell v:=fun b hb=>by
  rw[iU.mp hb];obtain⟨o,es,n,e,ed,_⟩:=hn;exact⟨o,e,fun v z=>by rw[ed] at z; cases z⟩
 have I6:=I5.pinned (fp:=[C]) (fun b hb=>by rw[iU.mp hb]; exact fc) ho
 have hg:PG X (.Name y py) (eO i):=aG hN hi' hy hf;show wpAny _ _ (assign (.Name y py) X.env (.ref acc)) (fun _ s''=>∃m,s''.heap.Ns C m/\∀h',Heap.SameBut C s''.heap h'->_) _ s';refine cT (hg _ s' _ H' (.ref acc) (.ref acc) _ I6 rfl q) fun _ s7 qx=>?_;obtain⟨σ7,H7,I7,q7⟩:=qx
 have pc:∀o,s'.heap.get? C=some o->s7.heap.get? C=some o/\H7 C=none:=fun o e=>by
  have:=I7.pin (C,o) (ju _ (ju _ (d9 (by simp) e)))
  exact⟨this.1,this.2.1⟩
 refine⟨m,hn.at fun o e=>(pc o e).1,fun h' sb=>cH (cH ⟨σ7,H7,?_,q7⟩)⟩
 have fr:H7 C=none:=by
  obtain⟨o,es,n,e,ed,_⟩:=hn;exact(pc o e).2
 exact I7.jl.turned (it:=C) (t':=s7.toks) (fun b o hb e=>sb.extBut b o hb e) fr fc.2.1 fc.2.2.2.1 fc.2.2.2.2.1 fc.2.2.2.2.2
theorem Sd{X:Cx}{elt iter tg:Expr}{ifs:List Expr}{g:TG}{tc:TT}{nt:Nat}{pos:Pos}{sc:Scope}{wi:TI}{te:TE}{N':List Str}{js:List Nat}(hc:X.calm=true)(hi:PI X tg iter wi)(S:ux X nt N' js sc)
  (hgt:∀fp s H,PG (qt X N' sc fp s H) tg g) (hif:∀fp s H,Gb (qt X N' sc fp s H) ifs tc) (he:∀fp s H,PE (qt X N' sc fp s H) elt te) (hs:‹∀x,foldedSetIterable iter X.env x=pure x›):PE X (.ListComp elt [⟨tg,iter,ifs,0⟩] sc pos) (fP nt js wi g tc te):=by
 symm;intro Q I h;rw[eval_ListComp];refine zM (use:=none) hc hi S hgt hif he hs I h fun acc C H' s' I5 fc ⟨m,hn⟩ q=>?_;refine⟨m,hn,fun h' sb=>?_⟩;exact⟨.ref acc,H',I5.turned (it:=C) (t':=s'.toks) (fun b o hb q=>sb.extBut b o hb q) fc.1 fc.2.1 fc.2.2.2.1 fc.2.2.2.2.1 fc.2.2.2.2.2,rfl,q⟩
theorem ux.of{X:Cx}{nt:Nat}{N':List Str}{js:List Nat}{sc:Scope}(k: ~~~(sc.kind=.function))(n: autoParam ((sc.names.all fun y=>y.2 != .cell || sc.names.lookup y.1==some .cell)=true) zh._auto_1)
  (l: autoParam ((sc.names.all fun y=>y.2 != .local || sc.names.lookup y.1==some .local)=true) zh._auto_1) (al: ~~~((sc.names.all fun y=>y.2 != .free || (X.env.cells.lookup y.1).isSome)=true))
  (ln: ~~~(N'.length=nt+js.length)) (cp: ~~~((N'.drop nt).map some=js.map (fun j=>X.N[j]?))) (ck: ~~~(((N'.drop nt).all fun y=>X.env.kindOf y==some .cell&&sc.names.lookup y==some .free)=true)):ux X nt N' js sc:=by
 have n':∀y∈sc.names,y.2=.cell->sc.names.lookup y.1=some .cell:=fun y hy hc=>by
  have:=qw.mp n y hy;rw[hc] at this;simpa using this
 refine⟨k,n',pM l,kh al,al,ln,fun i j h=>?_,fun y h=>?_⟩
 ·have:=m8 (fun l=>l[i]?) cp;simp only[cM,Ht,h,Cr] at this;cases e:N'[nt+i]? with
  | none=>rw[e] at this; cases this
  | some y=>rw[e] at this; exact Option.some.inj this
 ·have:=qw.mp ck y h;simpa using this
theorem j7{X:Cx}{elt iter:Expr}{tg:Expr}{ifs:List Expr}{g:TG}{tc:TT}{nt:Nat}{y:Str}{py pos spos:Pos}{sc:Scope}{wi:TI}{te:TE}{N':List Str}{js:List Nat}{i:Nat}(hN:X.N.Nodup)(hi':X.N[i]?=some y)(hy:Loc X.env.scope y)(hc:X.calm=true)(hi:PI X tg iter wi)(S:oA X nt N' js sc)
  (hgt:∀fp s H,PG (U6 X N' sc fp s H) tg g) (hif:∀fp s H,Gb (U6 X N' sc fp s H) ifs tc) (he:∀fp s H,PE (U6 X N' sc fp s H) elt te) (hs:‹∀x,foldedSetIterable iter X.env x=pure x›) (hw: ~~~(swapsWith (.ListComp elt [⟨tg,iter,ifs,0⟩] sc pos) (some (.Name y py)) spos.line X.env=pure true))
  (hf: autoParam (X.fn y=true\/X.env.scope.names.lookup y=some .local) zd._auto_1) :
  PS X (.Assign [.Name y py] (.ListComp elt [⟨tg,iter,ifs,0⟩] sc pos) spos) (DP (fP nt js wi g tc te) (eO i)):=R4 hN hi' hy hc hi S.toD (fun fp s H=>Dm S.nq▸hgt fp s H) (fun fp s H=>Dm S.nq▸hif fp s H) (fun fp s H=>Dm S.nq▸he fp s H) hs hw hf
theorem mK{X:Cx}{elt iter tg:Expr}{ifs:List Expr}{g:TG}{tc:TT}{nt:Nat}{pos:Pos}{sc:Scope}{wi:TI}{te:TE}{N':List Str}{js:List Nat}(hc:X.calm=true)(hi:PI X tg iter wi)(S:oA X nt N' js sc)
  (hgt:∀fp s H,PG (U6 X N' sc fp s H) tg g) (hif:∀fp s H,Gb (U6 X N' sc fp s H) ifs tc) (he:∀fp s H,PE (U6 X N' sc fp s H) elt te) (hs:‹∀x,foldedSetIterable iter X.env x=pure x›):PE X (.ListComp elt [⟨tg,iter,ifs,0⟩] sc pos) (fP nt js wi g tc te):=Sd hc hi S.toD (fun fp s H=>Dm S.nq▸hgt fp s H) (fun fp s H=>Dm S.nq▸hif fp s H) (fun fp s H=>Dm S.nq▸he fp s H) hs
theorem sr.toG{X:Cx}{N':List Str}{js:List Nat}{sc:Scope}(S:sr X N' js sc):oA X 1 N' js sc:=⟨S.kind,S.nq,S.names,S.clos,S.all,by rw[S.len,Nat.add_comm],fun i j h=>by rw[Nat.add_comm]; exact S.cap i j h,fun y h=>S.Uj y (by rw[<- List.drop_one]; exact h)⟩
theorem Lx{js:List Nat}{wi:TI}{te:TE}:iw js wi te=fP 1 js wi (eO 0) wj te:=by
 funext σ H Q
 have e:∀(x:V)(H3:Hp)(K1:VK)(K2:Hp->Prop),te (some x::bR js σ) H3 K1=eO 0 x (List.replicate 1 none++bR js σ) H3 fun σ' H'=>(σ'.drop 1=bR js σ/\σ'.length=(List.replicate 1 (none:Option V)++bR js σ).length)/\wj σ' H' fun b bO=>if b=true then te σ' bO K1 else K2 bO:=fun x H3 K1 K2=>propext ⟨fun h=>⟨⟨rfl,rfl⟩,h⟩,fun h=>h.2⟩
 unfold iw fP;refine m8 (wi σ H) (funext fun J=>funext fun H1=>?_);refine propext ⟨fun h acc ha=>?_,fun h acc ha=>?_⟩
 ·obtain⟨W,h0,hs⟩:=h acc ha;refine⟨W,h0,fun i m ys H2 w=>(hs i m ys H2 w).imp id fun z=>⟨z.1,fun x H3 y=>?_⟩⟩;have:=z.2 x H3 y;rw[e x H3 _ fun bO=>∃m',m'<m/\W (i+1) m' ys bO] at this;exact this
 ·obtain⟨W,h0,hs⟩:=h acc ha;refine⟨W,h0,fun i m ys H2 w=>(hs i m ys H2 w).imp id fun z=>⟨z.1,fun x H3 y=>?_⟩⟩;rw[e x H3 _ fun bO=>∃m',m'<m/\W (i+1) m' ys bO];exact z.2 x H3 y
theorem dR{X:Cx}{elt iter:Expr}{x:Str}{px pos:Pos}{sc:Scope}{wi:TI}{te:TE}{N':List Str}{js:List Nat}(hc:X.calm=true)(hi:PI X (.Name x px) iter wi)(S:sr X N' js sc)(h0:N'[0]?=some x)(nd:N'.Nodup)
  (hx:sc.names.lookup x=some .local) (he:∀fp s H,PE (U6 X N' sc fp s H) elt te) (hs:‹∀x,foldedSetIterable iter X.env x=pure x›):PE X (.ListComp elt [⟨.Name x px,iter,[],0⟩] sc pos) (iw js wi te):=by
 rw[Lx];exact mK hc hi S.toG (fun _ _ _=>aG nd h0 (.inl (gF hx)) (.inr (gF hx))) (fun _ _ _=>jh) he hs
theorem Eg{X:Cx}{elt iter:Expr}{x y:Str}{px py pos spos:Pos}{sc:Scope}{wi:TI}{te:TE}{N':List Str}{js:List Nat}{i:Nat}(hN:X.N.Nodup)(hi':X.N[i]?=some y)(hy:Loc X.env.scope y)(hc:X.calm=true)(hi:PI X (.Name x px) iter wi)(S:sr X N' js sc)(h0:N'[0]?=some x)(nd:N'.Nodup)
  (hx:sc.names.lookup x=some .local) (he:∀fp s H,PE (U6 X N' sc fp s H) elt te) (hs:‹∀x,foldedSetIterable iter X.env x=pure x›) (hw: ~~~(swapsWith (.ListComp elt [⟨.Name x px,iter,[],0⟩] sc pos) (some (.Name y py)) spos.line X.env=pure true))
  (hf: autoParam (X.fn y=true\/X.env.scope.names.lookup y=some .local) zd._auto_1) :
  PS X (.Assign [.Name y py] (.ListComp elt [⟨.Name x px,iter,[],0⟩] sc pos) spos) (DP (iw js wi te) (eO i)):=by
 rw[Lx];exact j7 hN hi' hy hc hi S.toG (fun _ _ _=>aG nd h0 (.inl (gF hx)) (.inr (gF hx))) (fun _ _ _=>jh) he hs hw hf
theorem oA.of{X:Cx}{nt:Nat}{N':List Str}{js:List Nat}{sc:Scope}(k: ~~~(sc.kind=.function))(n: autoParam ((sc.names.all fun y=>y.2 != .cell)=true) zh._auto_1)
  (l: autoParam ((sc.names.all fun y=>y.2 != .local || sc.names.lookup y.1==some .local)=true) zh._auto_1) (al: ~~~((sc.names.all fun y=>y.2 != .free || (X.env.cells.lookup y.1).isSome)=true))
  (ln: ~~~(N'.length=nt+js.length)) (cp: ~~~((N'.drop nt).map some=js.map (fun j=>X.N[j]?))) (ck: ~~~(((N'.drop nt).all fun y=>X.env.kindOf y==some .cell&&sc.names.lookup y==some .free)=true)):oA X nt N' js sc:=by
 have n':∀y∈sc.names,y.2≠.cell:=fun y hy=>by have:=qw.mp n y hy; simpa using this
 refine⟨k,n',pM l,kh al,al,ln,fun i j h=>?_,fun y h=>?_⟩
 ·have:=m8 (fun l=>l[i]?) cp;simp only[cM,Ht,h,Cr] at this;cases e:N'[nt+i]? with
  | none=>rw[e] at this; cases this
  | some y=>rw[e] at this; exact Option.some.inj this
 ·have:=qw.mp ck y h;simpa using this
def LCK(K:Frag)(js:List Nat)(te:TE)(σ:St)(Q:VK)(x:V)(H1:Hp):Prop:=iw js (lE K fun _ H R=>R x H) te σ H1 Q
theorem BR{K:Frag}{js:List Nat}{tl te:TE}{σ:St}{H:Hp}{Q:VK}:iw js (lE K tl) te σ H Q=tl σ H (LCK K js te σ Q):=rfl
theorem LCK.of{K:Frag}{js:List Nat}{a:Addr}{xs:List V}{es:List PyData}{te:TE}{σ:St}{H:Hp}{Q:VK}(ha:H a=some (.lst xs))(hn:es.length=xs.length)(hz:es.length<=sizeLine)(hL:bH es=true)
  (step:∀(i:Nat) x e H',xs[i]?=some x->es[i]?=some e->aL H H'->∀R:VK,(∀v bO,aL H' bO->At bO e v->R v bO)->te (some x::bR js σ) H' R)
  (fin:∀acc ys H',aL H H'->H acc=none->H' acc=some (.lst ys)->aj (hid acc H') es ys->Q (.ref acc) H'):LCK K js te σ Q (.ref a) H:=Xd (fun R h=>h) ha hn hz hL step fin
theorem Xc{K:Frag}{js:List Nat}{a:Addr}{xs:List V}{es:List PyData}{tl te:TE}{σ:St}{H:Hp}{Q:VK}(hl:∀R:VK,R (.ref a) H->tl σ H R)(ha:H a=some (.tup xs))(hn:es.length=xs.length)(hz:es.length<=sizeLine)(hL:bH es=true)
  (step:∀(i:Nat) x e H',xs[i]?=some x->es[i]?=some e->aL H H'->∀R:VK,(∀v bO,aL H' bO->At bO e v->R v bO)->te (some x::bR js σ) H' R)
  (fin:∀acc ys H',aL H H'->H acc=none->H' acc=some (.lst ys)->aj (hid acc H') es ys->Q (.ref acc) H'):iw js (Kl K tl) te σ H Q:=by
 refine hl _ ⟨a,rfl,⟨xs,eX.of ha⟩,fun acc hacc=>?_⟩;refine⟨fun i m ys H2=>m=es.length-i/\i<=es.length/\aj (hid acc H2) (es.take i) ys/\aL H H2/\H2 acc=some (.lst ys),⟨_,rfl,gU _,aj.nil,aP hacc _,aB⟩,?_⟩;rintro i m ys H2 ⟨rfl,hi,hA,sm,hy⟩;have ht:eX K H2 a xs:=eX.of (sm _ _ ha);by_cases hlt:i<es.length
 ·refine .inr ⟨⟨xs,xs[i]'∅,ht,dC ∅⟩,fun x H3 y=>?_⟩
  obtain⟨e,y⟩:=y;subst e;have e1:es[i]?=some es[i]:=dC hlt;refine step i x _ _ (y xs ht) e1 sm _ fun v H4 s4 a4=>⟨s4 _ _ hy,?_,es.length-(i+1),∅,rfl,hlt,?_,?_,aB⟩
  ·rw[hA.length,k_]; omega
  ·rw[nC,Cm,e1];exact aj.append (hA.mono (aL.hid s4)) (aj.cons (At.Ay (s4 _ _ hy) _ _ (rK hL e1) a4) aj.nil)
  ·refine fun b o q=>?_;have nb:b≠acc:=cB q hacc;rw[aJ nb];exact s4 _ _ (sm _ _ q)
 ·have e:i=es.length:=by omega
  subst e;rw[pH] at hA;exact .inl ⟨⟨xs,ht,∅⟩,fin _ _ _ sm hacc hy hA⟩
theorem Di(kp:Nat->Bool)(f:Nat->V)(i:Nat):((List.range (i+1)).filter kp).map f=((List.range i).filter kp).map f++(if kp i=true then[f i] else[]):=by
 rw[Ho,List.filter_append,ig];cases h:kp i <;> simp[h]
theorem T_(kp:Nat->Bool)(f:Nat->V)(i:Nat):(((List.range i).filter kp).map f).length<=i:=by
 rw[bW];exact lW (List.length_filter_le _ _) (by rw[List.length_range]; exact bJ _)
theorem zN{js:List Nat}{J:It}{tc:TT}{te:TE}{σ:St}{H:Hp}{Q:VK}{acc:Addr}{n:Nat}(xv:Nat->V)(kp:Nat->Bool)(f:Nat->V)(hn:n<=1000)(hacc:H acc=none)
  (go:∀i H',i<n->aL H H'->J.go i H') (yl:∀i H' x bO,i<n->aL H H'->J.Gf i H' x bO->x=xv i/\bO=H') (st:∀H',aL H H'->J.stop n H')
  (test:∀i H',i<n->aL H H'->∀R:Bool->Hp->Prop,R (kp i) H'->tc (some (xv i)::bR js σ) H' R)
  (val:∀i H',i<n->kp i=true->aL H H'->∀R:VK,R (f i) H'->te (some (xv i)::bR js σ) H' R)
  (fin:∀H',aL H H'->H' acc=some (.lst (((List.range n).filter kp).map f))->Q (.ref acc) H') :
  ∃W:Nat->Nat->List V->Hp->Prop,(∃m,W 0 m [] (upd H acc (.lst [])))/\∀i m ys H2,W i m ys H2 ->
   (J.stop i H2/\Q (.ref acc) H2)\/(J.go i H2/\∀x H3,J.Gf i H2 x H3->eO 0 x (List.replicate 1 none++bR js σ) H3 fun σ' H'=>(σ'.drop 1=bR js σ/\σ'.length=(List.replicate 1 (none:Option V)++bR js σ).length)/\tc σ' H' fun b bO=>
    if b=true then te σ' bO fun y H4=>H4 acc=some (.lst ys)/\ys.length<sizeLine/\∃m',m'<m/\W (i+1) m' (ys++[y]) (upd H4 acc (.lst (ys++[y]))) else ∃m',m'<m/\W (i+1) m' ys bO):=by
 refine⟨fun i m ys H2=>m=n-i/\i<=n/\ys=((List.range i).filter kp).map f/\aL H H2/\H2 acc=some (.lst ys),⟨_,rfl,gU _,rfl,aP hacc _,aB⟩,?_⟩;rintro i m ys H2 ⟨rfl,hi,rfl,sm,hy⟩;by_cases hlt:i<n
 ·refine .inr ⟨go i H2 hlt sm,fun x H3 y=>?_⟩;obtain⟨rfl,rfl⟩:=yl i H2 x H3 hlt sm y;refine⟨⟨rfl,by simp⟩,?_⟩
  refine test i _ hlt sm _ ?_;have hs:=Di kp f i;cases h:kp i with
  | true=>
   rw[aX rfl];rw[h,aX rfl] at hs;refine val i _ hlt h sm _ ⟨hy,a_ (by have:=T_ kp f i; omega),n-(i+1),∅,rfl,hlt,hs.symm,sm.eZ hacc,aB⟩
  | false=>
   rw[aQ ⋯]
   rw[h,aQ ⋯,q_] at hs
   exact⟨n-(i+1),∅,rfl,hlt,hs.symm,sm,hy⟩
 ·have e:i=n:=by omega
  subst e;exact .inl ⟨st _ sm,fin _ sm hy⟩
theorem Xh{K:Frag}{js:List Nat}{a:Addr}{xs:List V}{tl:TE}{tc:TT}{te:TE}{σ:St}{H:Hp}{Q:VK}(kp:Nat->Bool)(f:Nat->V)(hl:∀R:VK,R (.ref a) H->tl σ H R)(ha:H a=some (.lst xs))(hn:xs.length<=1000)
  (test:∀i x H',xs[i]?=some x->aL H H'->∀R:Bool->Hp->Prop,R (kp i) H'->tc (some x::bR js σ) H' R)
  (val:∀i x H',xs[i]?=some x->kp i=true->aL H H'->∀R:VK,R (f i) H'->te (some x::bR js σ) H' R)
  (fin:∀acc H',aL H H'->H acc=none->H' acc=some (.lst (((List.range xs.length).filter kp).map f))->Q (.ref acc) H'):fP 1 js (lE K tl) (eO 0) tc te σ H Q:=by
 refine hl _ ⟨a,rfl,⟨xs,cG.of ha⟩,fun acc hacc=>?_⟩;have ht:∀H',aL H H'->cG K H' a xs:=fun H' s=>cG.of (s _ _ ha);have gx:∀i,i<xs.length->xs[i]?=some (xs.getD i .non):=fun i hi=>by rw[iV,dC hi]; rfl
 exact zN (n:=xs.length) (fun i=>xs.getD i .non) kp f hn hacc (fun i H' hi s=>⟨xs,_,ht H' s,gx i hi⟩) (fun i H' x bO hi s y=>by
   obtain⟨e,y⟩:=y;have:=y xs (ht H' s);rw[gx i hi] at this
   exact⟨(Option.some.inj this).symm,e⟩) (fun H' s=>⟨xs,ht H' s,bJ _⟩)
  (fun i H' hi s R hR=>test i _ H' (gx i hi) s R hR) (fun i H' hi hk s R hR=>val i _ H' (gx i hi) hk s R hR) fun H' s h=>fin acc H' s hacc h
theorem Xg{js:List Nat}{ta:TA}{tc:TT}{te:TE}{σ:St}{H:Hp}{Q:VK}{n:Nat}(kp:Nat->Bool)(f:Nat->V)(hl:∀R:List V->Hp->Prop,R [.int n] H->ta σ H R)(hn:n<=1000)
  (test:∀i H',i<n->aL H H'->∀R:Bool->Hp->Prop,R (kp i) H'->tc (some (.int (0+(i:Nat)))::bR js σ) H' R)
  (val:∀i H',i<n->kp i=true->aL H H'->∀R:VK,R (f i) H'->te (some (.int (0+(i:Nat)))::bR js σ) H' R)
  (fin:∀acc H',aL H H'->H acc=none->H' acc=some (.lst (((List.range n).filter kp).map f))->Q (.ref acc) H'):fP 1 js (zj ta) (eO 0) tc te σ H Q:=by
 refine hl _ ⟨n,rfl,∅,∅,fun acc hacc=>?_⟩
 have en:((n:Int)).toNat=n:=rB n;rw[en];exact zN (n:=n) (fun i=>.int (0+(i:Nat))) kp f hn hacc (fun i H' hi s=>hi) (fun i H' x bO hi s y=>⟨y.2,y.1⟩) (fun H' s=>bJ _) test val fun H' s h=>fin acc H' s hacc h
section
variable{prog:AC}{w:World}{A:Around}{E:AA->AB->Prop}{s:AB}
theorem _root_.PySem.Heap.ExtBut.trans'{b:Addr}{h h1 h2:Heap}(x:Heap.ExtBut b h h1)(y:∀c o,h1.get? c=some o->h2.get? c=some o):Heap.ExtBut b h h2:=fun c o n e=>y c o (x c o n e)
theorem Oo{α:Type}{Q:α->AB->Prop}(hh:A.handled=none)(q:∀h' x,(∀c o,s.heap.get? c=some o->h'.get? c=some o)->(∃o,h'.get? x=some o/\o.cls=.type "StopIteration")->E (.ref x) { s with heap:=h' }) :
  wpAny (model prog w) A (Builtin.SmallTypes.stopIteration (α:=α)) Q E s:=by
 unfold Builtin.SmallTypes.stopIteration;refine bh ?_;simp only[newExc,newTuple];refine bh (uU ?_ (by size_fits)); refine bh (m:=firstArgMember _ _) (yq (a:=Value.none) (by rfl) ?_)
 refine uU ?_ (by size_fits); simp only[raiseNew]
 refine bh (wpAny_handled ?_); rw[hh];refine bh (cH (wpAny_throw ?_)); refine q _ _ (fun c o e=>?_) ⟨_,dI _ rfl,rfl⟩;exact eF _ (eF _ e)
theorem Z4{it t:Addr}{i:Nat}{its:Array AA}{u:AA}{Q:AA->AB->Prop}(hi:s.heap.IsTupleIter it t i)(ht:s.heap.IsTuple t its)(hu:its[i]?=some u)
  (q:∀h',h'.IsTupleIter it t (i+1)->Heap.SameBut it s.heap h'->Q u { s with heap:=h' }):wpAny (model prog w) A (Builtin.SmallTypes.nextOf (.ref it)) Q E s:=by
 obtain⟨oi,gi,ci,di⟩:=id hi;obtain⟨ot,gt,_,nt,dt⟩:=ht;have ty:=hi.typeIs;have nn:¬((Value.ref t==Value.none)=true):=fun z=>Bool.noConfusion (show false=true from z);unfold Builtin.SmallTypes.nextOf;refine bh (Hd (name:=Str.ofString "__next__") ty F.slot_tuple_iterator_next (Ah F.slot_tuple_iterator_next ty F.entry_tuple_iterator_next ?_ (F.args_tuple_iterator_next_1 _)));show wpAny _ _ (field (.ref it) 0 >>= _) _ _ s; refine bh (iH gi di (x:=.ref t) rfl ?_);show wpAny _ _ (if(Value.ref t==Value.none)=true then _ else _) _ _ s; rw[aQ nn]
 show wpAny _ _ (field (.ref it) 1 >>= _) _ _ s; refine bh (iH gi di (x:=.int i 0) rfl ?_);show wpAny _ _ (seqItems? (.ref t) >>= _) _ _ s; refine bh (qZ gt dt ?_);simp only[rB,hu];have fin:∀h',(∃o,h'.get? it=some o/\o.cls=.type "tuple_iterator" /\ o.data=.fields #[.ref t,.int ((i+1:Nat):Int) 0])->Heap.SameBut it s.heap h'->Q u { s with heap:=h' }:=fun h' z sb=>q h' z sb
 refine bh (Cp gi di (by simp) (cH ⟨u,rfl,cH (fin _ ?_ (Heap.SameBut.update ..))⟩))
 refine⟨_,Hc _ gi (Obj.isFreed_of_fields (Obj.data_mapFields di _)),(Obj.cls_mapFields ..).trans ci,?_⟩;rw[Obj.data_mapFields di];simp[rawInt]
theorem Wr{it t:Addr}{i:Nat}{its:Array AA}{Q:AA->AB->Prop}(hh:A.handled=none)(hi:s.heap.IsTupleIter it t i)(ht:s.heap.IsTuple t its)(hu:its[i]?=none)
  (q:∀h' x,Heap.ExtBut it s.heap h'->(∃o,h'.get? x=some o/\o.cls=.type "StopIteration")->E (.ref x) { s with heap:=h' }):wpAny (model prog w) A (Builtin.SmallTypes.nextOf (.ref it)) Q E s:=by
 obtain⟨oi,gi,ci,di⟩:=id hi;obtain⟨ot,gt,_,nt,dt⟩:=ht;have ty:=hi.typeIs;have nn:¬((Value.ref t==Value.none)=true):=fun z=>Bool.noConfusion (show false=true from z);unfold Builtin.SmallTypes.nextOf;refine bh (Hd (name:=Str.ofString "__next__") ty F.slot_tuple_iterator_next (Ah F.slot_tuple_iterator_next ty F.entry_tuple_iterator_next ?_ (F.args_tuple_iterator_next_1 _)));show wpAny _ _ (field (.ref it) 0 >>= _) _ _ s; refine bh (iH gi di (x:=.ref t) rfl ?_);show wpAny _ _ (if(Value.ref t==Value.none)=true then _ else _) _ _ s; rw[aQ nn]
 show wpAny _ _ (field (.ref it) 1 >>= _) _ _ s; refine bh (iH gi di (x:=.int i 0) rfl ?_);show wpAny _ _ (seqItems? (.ref t) >>= _) _ _ s; refine bh (qZ gt dt ?_);simp only[rB,hu];refine bh (Ae (bh (Cp gi di (by simp) ?_)))
 exact Oo (A:=A.in1) hh fun h' x k z=>q h' x ((Heap.SameBut.update ..).extBut.trans' k) z
end
theorem Qi{prog:AC}{w:World}{A:Around}(hh:A.handled=none){it t:Addr}(ne:t≠it)(its:Array AA):Draws prog w A it [it,t] its.size (fun i v=>its[i]?=some v) (fun i h=>h.IsTupleIter it t i/\h.IsTuple t its) where
 live:=fun i h z=>let ⟨⟨o,e,_⟩,_⟩:=z; ⟨o,e⟩
 frame:=fun i h h' z k=>⟨z.1.at fun o e=>k it iK o e,z.2.at fun o e=>k t (jb _ iK) o e⟩
 item:=fun i s Q E hi z q=>by
  refine Z4 z.1 z.2 (u:=its[i]) (Mu hi) fun h' z' sb=>?_;exact q _ h' s.toks (Mu hi) ⟨z',z.2.extBut sb.extBut ne⟩ sb
 done:=fun s Q E z q=>Wr hh z.1 z.2 (by simp) q
abbrev tiH(h:Heap)(t:Addr):Heap:=h.push { cls:=.type "tuple_iterator",data:=.fields #[.ref t,.int 0 0] }
section
variable{X:Cx}
end
structure Yw(z TI TO i1 i2:Addr)(f1 f2:List Addr):Prop where
 a1:TI≠z
 a2:TO≠z
 a3:TI≠TO
 a4:i1≠z
 a5:i2≠z
 a6:TO≠i1
 a7:TO≠i2
 a8:i1≠i2
 b1:z∉f1
 b2:z∉f2
 b3:TO∉f1
 b4:TO∉f2
 b5:i1∉f2
 b6:i2∉f1
section
variable{prog:AC}{w:World}{A:Around}{E:AA->AB->Prop}{s:AB}
theorem Gg{b:Addr}{h h':Heap}{f:List Addr}(sb:Heap.SameBut b h h')(hb:b∉f):∀c∈f,∀o,h.get? c=some o->h'.get? c=some o:=fun c hc o e=>sb.extBut c o (fun z=>hb (z▸hc)) e
theorem QV{z TI TO i1 i2:Addr}{f1 f2:List Addr}{n1 n2 k:Nat}{P1 P2:Nat->AA->Prop}{S1 S2:Nat->Heap->Prop}{a b:AA}{Q:AA->AB->Prop}(Z:Yw z TI TO i1 i2 f1 f2)(D1:Draws prog w A i1 f1 n1 P1 S1)(D2:Draws prog w A i2 f2 n2 P2 S2)
  (hz:IsZip s.heap z TI TO .none) (hi:IsPair s.heap TI (.ref i1) (.ref i2)) (ho:IsPair s.heap TO a b) (s1:S1 k s.heap) (s2:S2 k s.heap) (k1:k<n1) (k2:k<n2)
  (q:∀x y h' tk,P1 k x->P2 k y->IsZip h' z TI TO (rawInt s.heap.objs.size)->IsPair h' TO x y->S1 (k+1) h'->S2 (k+1) h'->IsPair h' s.heap.objs.size x y->h'.objs.size=s.heap.objs.size+1->(∀c o,c≠z->c≠TO->c≠i1->c≠i2->s.heap.get? c=some o->h'.get? c=some o)->Q (.ref s.heap.objs.size) { s with heap:=h',toks:=tk }) :
  wpAny (model prog w) A (Builtin.«zip.__next__» ⟨[.ref z],[]⟩) (fun fin s'=>∃v,fin=.done (.ret v)/\Q v s') E s:=by
 show wpAny _ _ (field (.ref z) 2 >>= _) _ _ _; refine bh (iH hz rfl (x:=.bool false) rfl ?_);show wpAny _ _ (field (.ref z) 3 >>= _) _ _ _; refine bh (iH hz rfl (x:=.ref TI) rfl (bh (qZ hi rfl ?_)));show wpAny _ _ (Builtin.SmallTypes.ownedTupleIsFree (.ref z) >>= _) _ _ _; unfold Builtin.SmallTypes.ownedTupleIsFree;refine bh (bh (iH hz rfl (x:=.none) rfl (cH ?_))); simp only[if_true];refine bh (Ae (bh (iH hz rfl (x:=.ref TO) rfl (bh (JP hz (by simp) fun hA zA sA=>?_)))))
 replace zA:IsZip hA z TI TO .ellipsis:=zA
 refine bh ?_; simp only[List.zipIdx_cons,List.zipIdx_nil,GK,Hj];refine bh (bh (wpAny_onRaise ?_)); show wpAny _ _ (Builtin.SmallTypes.nextOf (.ref i1) >>= _) _ _ _;refine bh (D1.item k _ _ _ k1 (D1.frame _ _ _ s1 (Gg sA Z.b1)) fun x hB tB pB stb sB=>cH ?_);have oB:IsPair hB TO a b:=sB.extBut _ _ Z.a6 (sA.extBut _ _ Z.a2 ho);have uB:S2 k hB:=D2.frame _ _ _ (D2.frame _ _ _ s2 (Gg sA Z.b2)) (Gg sB Z.b5);refine bh (qZ oB rfl (bh (wpAny_updateSeq_pair oB fun hC oC sC=>?_)))
 replace oC:IsPair hC TO x b:=oC
 refine bh (yu (cH (bh (bh (wpAny_onRaise ?_))))); show wpAny _ _ (Builtin.SmallTypes.nextOf (.ref i2) >>= _) _ _ _;refine bh (D2.item k _ _ _ k2 (D2.frame _ _ _ uB (Gg sC Z.b4)) fun y hD tD pD std sD=>cH ?_);have oD:IsPair hD TO x b:=sD.extBut _ _ Z.a7 oC;refine bh (qZ oD rfl (bh (wpAny_updateSeq_pair oD fun hF oF sF=>?_)))
 replace oF:IsPair hF TO x y:=oF
 refine bh (yu (cH (cH (bh (qZ oF rfl (bh (wpAny_newTuple ?_)))))));have zF:IsZip hF z TI TO .ellipsis:=sF.extBut _ _ Z.a2.symm (sD.extBut _ _ Z.a5.symm (sC.extBut _ _ Z.a2.symm (sB.extBut _ _ Z.a4.symm zA)));have size:hF.objs.size=s.heap.objs.size:=by rw[sF.1,sD.1,sC.1,sB.1,sA.1]
 have lz:z<hF.objs.size:=bV zF;show wpAny _ _ (Builtin.SmallTypes.ownedTupleHandOut (.ref z) (.ref hF.objs.size) >>= _) _ _ _; unfold Builtin.SmallTypes.ownedTupleHandOut;have zG:IsZip (hF.push { cls:=.type "tuple",data:=.seq #[x,y] }) z TI TO .ellipsis:=eF _ zF;refine bh (bh (JP zG (by simp) fun hI zI sI=>?_))
 replace zI:IsZip hI z TI TO (rawInt hF.objs.size):=zI
 refine JP zI (by simp) fun hJ zJ sJ=>cH ⟨_,rfl,?_⟩
 replace zJ:IsZip hJ z TI TO (rawInt hF.objs.size):=zJ
 have up:∀c o,c≠z->hF.get? c=some o->hJ.get? c=some o:=fun c o n e=>sJ.extBut _ _ n (sI.extBut _ _ n (eF _ e));have tJ:IsPair hJ hF.objs.size x y:=sJ.extBut _ _ (Eb lz) (sI.extBut _ _ (Eb lz) (dI _ rfl));have szJ:hJ.objs.size=hF.objs.size+1:=by rw[sJ.1,sI.1,iW]
 have kB:∀c o,c≠z->c≠TO->c≠i1->c≠i2->s.heap.get? c=some o->hF.get? c=some o:=fun c o n1 n2 n3 n4 e=>sF.extBut _ _ n2 (sD.extBut _ _ n4 (sC.extBut _ _ n2 (sB.extBut _ _ n3 (sA.extBut _ _ n1 e))));have u1:S1 (k+1) hF:=D1.frame _ _ _ (D1.frame _ _ _ (D1.frame _ _ _ stb (Gg sC Z.b3)) (Gg sD Z.b6)) (Gg sF Z.b3);have u2:S2 (k+1) hF:=D2.frame _ _ _ std (Gg sF Z.b4);show Q (.ref hF.objs.size) _;rw[size] at zJ tJ szJ ⊢;exact q x y hJ tD pB pD zJ (up _ _ Z.a2 oF) (D1.frame _ _ _ u1 fun c hc o e=>up c o (fun z'=>Z.b1 (z'▸hc)) e) (D2.frame _ _ _ u2 fun c hc o e=>up c o (fun z'=>Z.b2 (z'▸hc)) e) tJ szJ fun c o n1 n2 n3 n4 e=>up c o n1 (kB c o n1 n2 n3 n4 e)
theorem Oe{z TI TO i1 i2:Addr}{f1 f2:List Addr}{n1 n2 k:Nat}{P1 P2:Nat->AA->Prop}{S1 S2:Nat->Heap->Prop}{a b:AA}{Q:Fin->AB->Prop}(Z:Yw z TI TO i1 i2 f1 f2)(D1:Draws prog w A i1 f1 n1 P1 S1)(D2:Draws prog w A i2 f2 n2 P2 S2)
  (hz:IsZip s.heap z TI TO .none) (hi:IsPair s.heap TI (.ref i1) (.ref i2)) (ho:IsPair s.heap TO a b) (s1:S1 k s.heap) (s2:S2 k s.heap) (kk:k=n1\/(k<n1/\k=n2))
  (q:∀h' e,(∀c o,c≠z->c≠TO->c≠i1->c≠i2->s.heap.get? c=some o->h'.get? c=some o)->(∃o,h'.get? e=some o/\o.cls=.type "StopIteration")->∀tk,E (.ref e) { s with heap:=h',toks:=tk }) :
  wpAny (model prog w) A (Builtin.«zip.__next__» ⟨[.ref z],[]⟩) Q E s:=by
 show wpAny _ _ (field (.ref z) 2 >>= _) _ _ _; refine bh (iH hz rfl (x:=.bool false) rfl ?_);show wpAny _ _ (field (.ref z) 3 >>= _) _ _ _; refine bh (iH hz rfl (x:=.ref TI) rfl (bh (qZ hi rfl ?_)));show wpAny _ _ (Builtin.SmallTypes.ownedTupleIsFree (.ref z) >>= _) _ _ _; unfold Builtin.SmallTypes.ownedTupleIsFree;refine bh (bh (iH hz rfl (x:=.none) rfl (cH ?_))); simp only[if_true];refine bh (Ae (bh (iH hz rfl (x:=.ref TO) rfl (bh (JP hz (by simp) fun hA zA sA=>?_)))))
 replace zA:IsZip hA z TI TO .ellipsis:=zA
 refine bh ?_; simp only[List.zipIdx_cons,List.zipIdx_nil,GK,Hj];refine bh (bh (wpAny_onRaise ?_)); show wpAny _ _ (Builtin.SmallTypes.nextOf (.ref i1) >>= _) _ _ _;rcases kk with e1 | ⟨k1,e2⟩
 ·have s1':=s1;rw[e1] at s1';refine bh (D1.done _ _ _ (D1.frame _ _ _ s1' (Gg sA Z.b1)) fun hB x sB hx=>?_);obtain⟨ox,gx,cx⟩:=hx;have zB:IsZip hB z TI TO .ellipsis:=sB _ _ Z.a4.symm zA;have nx:x≠z:=fun y=>by subst y; rw[zB] at gx; cases gx; exact absurd (show Value.type "zip" = Value.type "StopIteration" from cx) ⋯
  refine JP zB (by simp) fun hC _ sC=>q hC x (fun c o m1 _ m3 _ e=>sC.extBut _ _ m1 (sB _ _ m3 (sA.extBut _ _ m1 e))) ⟨ox,sC.extBut _ _ nx gx,cx⟩ _
 ·refine bh (D1.item k _ _ _ k1 (D1.frame _ _ _ s1 (Gg sA Z.b1)) fun x hB tB pB stb sB=>cH ?_);have oB:IsPair hB TO a b:=sB.extBut _ _ Z.a6 (sA.extBut _ _ Z.a2 ho);have uB:S2 k hB:=D2.frame _ _ _ (D2.frame _ _ _ s2 (Gg sA Z.b2)) (Gg sB Z.b5);refine bh (qZ oB rfl (bh (wpAny_updateSeq_pair oB fun hC oC sC=>?_)));refine bh (yu (cH (bh (bh (wpAny_onRaise ?_))))); show wpAny _ _ (Builtin.SmallTypes.nextOf (.ref i2) >>= _) _ _ _;have uC:S2 n2 hC:=by rw[<- e2]; exact D2.frame _ _ _ uB (Gg sC Z.b4)
  refine bh (D2.done _ _ _ uC fun hD v sD hx=>?_);obtain⟨ox,gx,cx⟩:=hx;have zD:IsZip hD z TI TO .ellipsis:=sD _ _ Z.a5.symm (sC.extBut _ _ Z.a2.symm (sB.extBut _ _ Z.a4.symm zA));have nx:v≠z:=fun y=>by subst y; rw[zD] at gx; cases gx; exact absurd (show Value.type "zip" = Value.type "StopIteration" from cx) ⋯
  refine JP zD (by simp) fun hF _ sF=>q hF v (fun c o m1 m2 m3 m4 e=>sF.extBut _ _ m1 (sD _ _ m4 (sC.extBut _ _ m2 (sB.extBut _ _ m3 (sA.extBut _ _ m1 e))))) ⟨ox,sF.extBut _ _ nx gx,cx⟩ _
theorem QT{z TI TO i1 i2:Addr}{f1 f2:List Addr}{n1 n2 k:Nat}{P1 P2:Nat->AA->Prop}{S1 S2:Nat->Heap->Prop}{a b:AA}{Q:Option AA->AB->Prop}(Z:Yw z TI TO i1 i2 f1 f2)(D1:Draws prog w A.in1 i1 f1 n1 P1 S1)(D2:Draws prog w A.in1 i2 f2 n2 P2 S2)
  (hz:IsZip s.heap z TI TO .none) (hi:IsPair s.heap TI (.ref i1) (.ref i2)) (ho:IsPair s.heap TO a b) (s1:S1 k s.heap) (s2:S2 k s.heap) (k1:k<n1) (k2:k<n2)
  (q:∀x y h' tk,P1 k x->P2 k y->IsZip h' z TI TO (rawInt s.heap.objs.size)->IsPair h' TO x y->S1 (k+1) h'->S2 (k+1) h'->IsPair h' s.heap.objs.size x y->h'.objs.size=s.heap.objs.size+1->(∀c o,c≠z->c≠TO->c≠i1->c≠i2->s.heap.get? c=some o->h'.get? c=some o)->Q (some (.ref s.heap.objs.size)) { s with heap:=h',toks:=tk }) :
  wpAny (model prog w) A (pyNext (.ref z)) Q E s:=by
 have ty:s.TypeIs (.ref z) "zip" := ⟨_,hz,rfl⟩;unfold pyNext;refine bh (wpAny_attempt (Hd (name:=Str.ofString "__next__") ty F.slot_zip_next (Ah F.slot_zip_next ty F.entry_zip_next ?_ (F.args_zip_next_1 _))));exact QV Z D1 D2 hz hi ho s1 s2 k1 k2 fun x y h' tk p1 p2 v1 v2 v3 v4 v5 v6 v7=>cH (q x y h' tk p1 p2 v1 v2 v3 v4 v5 v6 v7)
theorem Lk{z TI TO i1 i2:Addr}{f1 f2:List Addr}{n1 n2 k:Nat}{P1 P2:Nat->AA->Prop}{S1 S2:Nat->Heap->Prop}{a b:AA}{Q:Option AA->AB->Prop}(Z:Yw z TI TO i1 i2 f1 f2)(D1:Draws prog w A.in1 i1 f1 n1 P1 S1)(D2:Draws prog w A.in1 i2 f2 n2 P2 S2)
  (hz:IsZip s.heap z TI TO .none) (hi:IsPair s.heap TI (.ref i1) (.ref i2)) (ho:IsPair s.heap TO a b) (s1:S1 k s.heap) (s2:S2 k s.heap) (kk:k=n1\/(k<n1/\k=n2))
  (q:∀h' tk,(∀c o,c≠z->c≠TO->c≠i1->c≠i2->s.heap.get? c=some o->h'.get? c=some o)->Q none { s with heap:=h',toks:=tk }):wpAny (model prog w) A (pyNext (.ref z)) Q E s:=by
 have ty:s.TypeIs (.ref z) "zip" := ⟨_,hz,rfl⟩;unfold pyNext;refine bh (wpAny_attempt (Hd (name:=Str.ofString "__next__") ty F.slot_zip_next (Ah F.slot_zip_next ty F.entry_zip_next ?_ (F.args_zip_next_1 _))));refine Oe Z D1 D2 hz hi ho s1 s2 kk fun h' e k hx tk=>?_;obtain⟨o,g,c⟩:=hx;exact bh (wpAny_isInstance (T:="StopIteration") (b:=true) ⟨o,g,c⟩ isSubtype_stop (cH (q _ tk k)))
end
abbrev zA2(h:Heap)(t1 t2:Addr):Heap:=tiH (tiH h t1) t2
abbrev zA3(h:Heap)(t1 t2:Addr):Heap:=(zA2 h t1 t2).push { cls:=.type "tuple",data:=.seq #[.ref h.objs.size,.ref (tiH h t1).objs.size] }
abbrev zA4(h:Heap)(t1 t2:Addr):Heap:=(zA3 h t1 t2).push { cls:=.type "tuple",data:=.seq #[.none,.none] }
abbrev YW(h:Heap)(t1 t2:Addr):Heap:=(zA4 h t1 t2).push { cls:=.type "zip",data:=.fields #[.none,.bool false,.bool false,.ref (zA2 h t1 t2).objs.size,.ref (zA3 h t1 t2).objs.size] }
theorem Wv(t1 t2:Addr)(xs ys:Array AA):Meets (Builtin.«zip.__new__» ⟨[.type "zip",.ref t1,.ref t2],[]⟩) (fun _ R s=>s.heap.IsTuple t1 xs/\s.heap.IsTuple t2 ys/\R (.ok (.ret (.ref (zA4 s.heap t1 t2).objs.size))) { s with heap:=YW s.heap t1 t2 }):=
 .of_wp fun prog w A R s z=>by
  obtain⟨hp,g,d,tk,os⟩:=s;obtain⟨hx,hy,z⟩:=z;have sub:=sub_zip;have hX:Heap.IsTuple (Shared.heap ⟨hp,g,d,tk,os⟩) t1 xs:=hx;have hY:Heap.IsTuple (Shared.heap ⟨tiH hp t1,g,d,tk,os⟩) t2 ys:=hy.push _
  wp_walk using Mr hX,Mr hY
  exact⟨_,rfl,z⟩
theorem Qn{prog:AC}{w:World}{A:Around}{E:AA->AB->Prop}{s:AB}{t1 t2:Addr}{xs ys:Array AA}{Q:AA->AB->Prop}(hx:s.heap.IsTuple t1 xs)(hy:s.heap.IsTuple t2 ys)
  (q:∀h',IsZip h' (s.heap.objs.size+4) (s.heap.objs.size+2) (s.heap.objs.size+3) .none->IsPair h' (s.heap.objs.size+2) (.ref s.heap.objs.size) (.ref (s.heap.objs.size+1))->IsPair h' (s.heap.objs.size+3) .none .none ->
   h'.IsTupleIter s.heap.objs.size t1 0->h'.IsTupleIter (s.heap.objs.size+1) t2 0->(∀c o,s.heap.get? c=some o->h'.get? c=some o)->Q (.ref (s.heap.objs.size+4)) { s with heap:=h' }) :
  wpAny (model prog w) A (call (.type "zip") [.ref t1,.ref t2]) Q E s:=by
 have n1:(tiH s.heap t1).objs.size=s.heap.objs.size+1:=iW ..;have n2:(zA2 s.heap t1 t2).objs.size=s.heap.objs.size+2:=by rw[iW,n1]
 have n3:(zA3 s.heap t1 t2).objs.size=s.heap.objs.size+3:=by rw[iW,n2]
 have n4:(zA4 s.heap t1 t2).objs.size=s.heap.objs.size+4:=by rw[iW,n3]
 have up:∀c o,s.heap.get? c=some o->(YW s.heap t1 t2).get? c=some o:=fun c o e=>eF _ (eF _ (eF _ (eF _ (eF _ e))));have v5:(YW s.heap t1 t2).get? (zA4 s.heap t1 t2).objs.size=some _:=dI _ rfl;have v4:(YW s.heap t1 t2).get? (zA3 s.heap t1 t2).objs.size=some _:=eF _ (dI _ rfl);have v3:(YW s.heap t1 t2).get? (zA2 s.heap t1 t2).objs.size=some _:=eF _ (eF _ (dI _ rfl));have v2:(YW s.heap t1 t2).get? (tiH s.heap t1).objs.size=some _:=eF _ (eF _ (eF _ (dI _ rfl)));have v1:(YW s.heap t1 t2).get? s.heap.objs.size=some _:=eF _ (eF _ (eF _ (eF _ (dI _ rfl))));refine callType_new F.called_zip ⋯ (F.typeCall_zip_2 _ _) (F.newCall_zip_2 _ _) (fun x=>F.args_object_init_3 x _ _) F.entry_zip_new (Wv t1 t2 xs ys) ⟨hx,hy,?_⟩
 show _/\_;rw[n2,n3,n4] at v5;rw[n1,n2] at v3;rw[n3] at v4;rw[n1] at v2;rw[n4];exact⟨⟨_,v5,rfl⟩,q _ v5 v3 v4 ⟨_,v1,rfl,rfl⟩ ⟨_,v2,rfl,rfl⟩ up⟩
theorem Inv.mW{X:Cx}{ae:LA}{σ:St}{H:Hp}{s:AB}{h':Heap}{t':Nat}{fp:List Addr}(I:Inv X ae σ H s)(k:∀b o,b∉fp->s.heap.get? b=some o->h'.get? b=some o)(hf:∀b∈fp,gB X ae H b) :
  Inv X ae σ H { s with heap:=h',toks:=t' }:=by
 have ni:∀b u,H b=some u->b∉fp:=fun b u q hb=>by rw[(hf b hb).1] at q; cases q
 refine I.step (g':=s.gens) (d':=s.drawn) (ch:=fp) (fun b hb=>?_) (fun b o _ _ hc q _=>k b o hc q) (fun b o _ _ hc q _=>⟨o.slots,k b o hc q⟩) (fun _ _ _ _ n=>n) (fun b o hc q=>⟨o,k b o hc q⟩) (fun _ _ q=>q) (fun _ _ _ q=>q)
  (fun b ps q=>⟨#[],by rw[q]; simp⟩) (fun m hm=>?_) (fun b u q=>?_) I.bare
 ·obtain⟨_,f1,_,f3,f4,f5⟩:=hf b hb;exact⟨f3,(hf b hb).2.1,f4,f5⟩
 ·obtain⟨o,es,ep,ho,r⟩:=hm;exact⟨o,es,ep,k _ o (fun hb=>(hf _ hb).2.1 rfl) ho,r⟩
 ·refine(I.hok b u q).stay (fun c v hc z=>k c v ?_ z) (fun _ z=>z) fun _ _ z=>z;rcases hc with z | z
  ·rw[z]; exact ni b u q
  ·exact ni c _ z
theorem ab0{X:Cx}{ae:LA}{σ:St}{H:Hp}{s:AB}{a b:Addr}{xs:List V}(I:Inv X ae σ H s)(hq:eX X.K H a xs)(hf:gB X ae H b):a≠b:=fun z=>by
 rcases hq with h | ⟨o,its,n,hk,_⟩
 ·rcases h with h | ⟨o,h⟩ <;> (rw[z,hf.1] at h; cases h)
 ·have e:X.base.get? a=some o:=I.ok.mod.Tc a o hk;rcases hf.2.2.2.1 with y | y
  ·exact I.ok.HW a o e (z▸y)
  ·have l:=bV e;have m:=I.ok.Qw;rw[z] at l;exact absurd (pI l (lW m y)) (uT _)
structure Knd where
 Sq:Frag->Hp->Addr->List V->Prop
 It:Heap->Addr->Addr->Nat->Prop
 Pl:Heap->Addr->Array AA->Prop
 obj:∀{h:Heap}{i a:Addr}{n:Nat},It h i a n->∃o,h.get? i=some o/\∀v,o.data≠.cell v
 keep:∀{h h':Heap}{i a:Addr}{n:Nat},It h i a n->(∀o,h.get? i=some o->h'.get? i=some o)->It h' i a n
 inv:∀{X:Cx}{ae:LA}{σ:St}{H:Hp}{s:AB}{a:Addr}{xs:List V},Inv X ae σ H s->Sq X.K H a xs->∃us:List AA,Vals xs us/\Pl s.heap a us.toArray
 inj:∀{X:Cx}{ae:LA}{σ:St}{H:Hp}{s:AB}{a:Addr}{xs ys:List V},Inv X ae σ H s->Sq X.K H a xs->Sq X.K H a ys->xs=ys
 ne:∀{X:Cx}{ae:LA}{σ:St}{H:Hp}{s:AB}{a b:Addr}{xs:List V},Inv X ae σ H s->Sq X.K H a xs->gB X ae H b->a≠b
 dr:∀{prog:AC}{w:World}{A:Around},A.handled=none->∀{i a:Addr},a≠i->∀us:Array AA,Draws prog w A i [i,a] us.size (fun n v=>us[n]?=some v) (fun n h=>It h i a n/\Pl h a us)
def kT:Knd:=⟨fun K=>eX K,fun h i a n=>h.IsTupleIter i a n,fun h a us=>h.IsTuple a us,fun⟨o,g,_,d⟩=>⟨o,g,fun v q=>by rw[d] at q; cases q⟩,fun g k=>g.at k,fun I h=>(I.tuple h).elim fun us p=>⟨us,p.1,p.2.1⟩,fun I h h'=>I.BK h h',fun I h f=>ab0 I h f,fun hh _ _ n us=>Qi hh n us⟩
def aaU(k1 k2:Knd)(K:Frag)(a b:Addr):It:=
 ⟨fun i H=>∃xs ys x y,k1.Sq K H a xs/\k2.Sq K H b ys/\xs[i]?=some x/\ys[i]?=some y,fun i H v H'=>∃p x y,H p=none/\v=.ref p/\H'=upd H p (.tup [x,y])/\(∀xs,k1.Sq K H a xs->xs[i]?=some x)/\∀ys,k2.Sq K H b ys->ys[i]?=some y,
  fun i H=>∃xs ys,k1.Sq K H a xs/\k2.Sq K H b ys/\(i=xs.length\/(i<xs.length/\i=ys.length))⟩
structure agR(k1 k2:Knd)(z TI TO i1 i2 a b:Addr)(i:Nat)(h:Heap):Prop where
 z:IsZip h z TI TO .none
 p:IsPair h TI (.ref i1) (.ref i2)
 o:∃x y,IsPair h TO x y
 l:k1.It h i1 a i
 r:k2.It h i2 b i
abbrev adE:=aaU kT kT
theorem BJ(k1 k2:Knd){P:AC}{w:World}{K:Frag}{elts:List Expr}{x1}{tp:Pos}(a b z TI TO i1 i2:Addr)(n1:TI≠z)(n2:TO≠z)(n3:TI≠TO)(n4:i1≠z)(n5:i2≠z)(n6:TO≠i1)(n7:TO≠i2)(n8:i1≠i2)(n9:TI≠i1)(n10:TI≠i2) :
  Turn P w K (.Tuple elts x1 tp) (aaU k1 k2 K a b) [z,TI,TO,i1,i2] z (agR k1 k2 z TI TO i1 i2 a b) where
 mem:=by simp
 obj:=fun i h st c hc=>by
  obtain⟨g1,g2,⟨x,y,g3⟩,g4,g5⟩:=st;simp only[bN,e_,or_false] at hc;rcases hc with rfl | rfl | rfl | rfl | rfl
  ·exact⟨_,g1,fun v q=>by cases q⟩
  ·exact⟨_,g2,fun v q=>by cases q⟩
  ·exact⟨_,g3,fun v q=>by cases q⟩
  ·exact k1.obj g4
  ·exact k2.obj g5
 keep:=fun i h h' st k=>by
  obtain⟨g1,g2,⟨x,y,g3⟩,g4,g5⟩:=st;exact⟨k z (by simp) _ g1,k TI (by simp) _ g2,⟨x,y,k TO (by simp) _ g3⟩,k1.keep g4 fun o e=>k i1 (by simp) o e,k2.keep g5 fun o e=>k i2 (by simp) o e⟩
 item:=by
  intro X hP hw hK hc i ae s σ H E I hf st hg;subst hP hw hK;obtain⟨g1,g2,⟨xo,yo,g3⟩,g4,g5⟩:=st;obtain⟨xs,ys,x,y,hx,hy,ex,ey⟩:=hg;obtain⟨us,ru,pu⟩:=k1.inv I hx;obtain⟨vs,rv,pv⟩:=k2.inv I hy;obtain⟨u,hu,ru'⟩:=ru.get ex;obtain⟨v,hv,rv'⟩:=rv.get ey;have ha:∀c∈[z,TI,TO,i1,i2],a≠c:=fun c hc=>k1.ne I hx (hf c hc);have hb:∀c∈[z,TI,TO,i1,i2],b≠c:=fun c hc=>k2.ne I hy (hf c hc);have hh:X.A.in1.handled=none:=I.ok.hd hc;have Z:Yw z TI TO i1 i2 [i1,a] [i2,b]:=⟨n1,n2,n3,n4,n5,n6,n7,n8,by simp; exact⟨n4.symm,(ha z (by simp)).symm⟩,by simp; exact⟨n5.symm,(hb z (by simp)).symm⟩,by simp; exact⟨n6,(ha TO (by simp)).symm⟩,by simp; exact⟨n7,(hb TO (by simp)).symm⟩,by simp; exact⟨n8,(hb i1 (by simp)).symm⟩,by simp; exact⟨n8.symm,(ha i2 (by simp)).symm⟩⟩
  refine QT Z (k1.dr hh (ha i1 (by simp)) us.toArray) (k2.dr hh (hb i2 (by simp)) vs.toArray) g1 g2 g3 (show _/\_ from⟨g4,pu⟩) (show _/\_ from⟨g5,pv⟩) (by have:=(iY.mp hu).1; simpa using this) (by have:=(iY.mp hv).1; simpa using this)
   fun u' v' h' tk hu' hv' z1 z2 z3 z4 z5 z6 kk=>?_
  have eu:u'=u:=by
   have:us[i]?=some u':=by simpa using hu'
   rw[hu] at this; exact(Option.some.inj this).symm
  have ev:v'=v:=by
   have:vs[i]?=some v':=by simpa using hv'
   rw[hv] at this; exact(Option.some.inj this).symm
  subst eu ev;have fr:H s.heap.objs.size=none:=I.hok.fresh (bJ _)
  have I1:Inv X ae σ (upd H s.heap.objs.size (.tup [x,y])) { s with heap:=s.heap.push { cls:=.type "tuple",data:=.seq #[u',v'] },toks:=tk }:=
   I.laid (t':=tk) (fun b v z=>eF _ z) (bJ _) ⟨(by show 2<=sizeLine; decide),[u',v'],.cons ru' (.cons rv' .nil),⟨_,dI _ rfl,rfl,_,rfl⟩⟩
  have lt:∀c∈[z,TI,TO,i1,i2],c<s.heap.objs.size:=fun c hc=>by
   simp only[bN,e_,or_false] at hc;rcases hc with rfl | rfl | rfl | rfl | rfl
   ·exact bV g1
   ·exact bV g2
   ·exact bV g3
   ·obtain⟨o,e,_⟩:=k1.obj g4; exact bV e
   ·obtain⟨o,e,_⟩:=k2.obj g5; exact bV e
  have f1:∀c∈[z,TI,TO,i1,i2],gB X ae (upd H s.heap.objs.size (.tup [x,y])) c:=fun c hc=>⟨by rw[aJ (fG (lt c hc))]; exact(hf c hc).1,(hf c hc).2⟩
  have I2:Inv X ae σ (upd H s.heap.objs.size (.tup [x,y])) { s with heap:=h',toks:=tk }:=I1.mW (t':=tk) (fun c o nc e=>by
   have m:∀d∈[z,TI,TO,i1,i2],c≠d:=fun d hd y=>nc (y▸hd);by_cases y:c=s.heap.objs.size
   ·subst y;rw[dI _ rfl] at e;cases e;exact z5
   ·rcases Heap.get?_push_cases e with w | w
    ·exact absurd w.1 y
    ·exact kk c o (m z (by simp)) (m TO (by simp)) (m i1 (by simp)) (m i2 (by simp)) w) f1
  have g2':IsPair h' TI (.ref i1) (.ref i2):=kk _ _ n1 n3 n9 n10 g2;refine⟨_,rfl,wpAny_letOwnedTupleGo_zip z1 fun h2 zz sb=>⟨.ref s.heap.objs.size,_,I2.mW (fp:=[z,TI,TO,i1,i2]) (t':=tk) (fun c o nc e=>sb.extBut c o (fun y=>nc (by simp[y])) e) f1,rfl,⟨_,x,y,fr,rfl,rfl,fun xs' h=>by rw[k1.inj I h hx]; exact ex,fun ys' h=>by rw[k2.inj I h hy]; exact ey⟩,⟨zz,sb.extBut _ _ n1 g2',⟨_,_,sb.extBut _ _ n2 z2⟩,?_,?_⟩,fun c hc=>(f1 c hc).1⟩⟩
  ·exact k1.keep z3.1 fun o e=>sb.extBut i1 o n4 e
  ·exact k2.keep z4.1 fun o e=>sb.extBut i2 o n5 e
 done:=by
  intro X hP hw hK hc i ae s σ H E I hf st hg;subst hP hw hK;obtain⟨g1,g2,⟨xo,yo,g3⟩,g4,g5⟩:=st;obtain⟨xs,ys,hx,hy,hl⟩:=hg;obtain⟨us,ru,pu⟩:=k1.inv I hx;obtain⟨vs,rv,pv⟩:=k2.inv I hy;have ha:∀c∈[z,TI,TO,i1,i2],a≠c:=fun c hc=>k1.ne I hx (hf c hc);have hb:∀c∈[z,TI,TO,i1,i2],b≠c:=fun c hc=>k2.ne I hy (hf c hc);have hh:X.A.in1.handled=none:=I.ok.hd hc;have Z:Yw z TI TO i1 i2 [i1,a] [i2,b]:=⟨n1,n2,n3,n4,n5,n6,n7,n8,by simp; exact⟨n4.symm,(ha z (by simp)).symm⟩,by simp; exact⟨n5.symm,(hb z (by simp)).symm⟩,by simp; exact⟨n6,(ha TO (by simp)).symm⟩,by simp; exact⟨n7,(hb TO (by simp)).symm⟩,by simp; exact⟨n8,(hb i1 (by simp)).symm⟩,by simp; exact⟨n8.symm,(ha i2 (by simp)).symm⟩⟩
  have l1:=ru.length;have l2:=rv.length;refine Lk Z (k1.dr hh (ha i1 (by simp)) us.toArray) (k2.dr hh (hb i2 (by simp)) vs.toArray) g1 g2 g3 (show _/\_ from⟨g4,pu⟩) (show _/\_ from⟨g5,pv⟩) (by simp; omega) fun h' tk kk=>⟨rfl,I.mW (fp:=[z,TI,TO,i1,i2]) (t':=tk) (fun c o nc e=>?_) hf⟩
  have m:∀d∈[z,TI,TO,i1,i2],c≠d:=fun d hd y=>nc (y▸hd);exact kk c o (m z (by simp)) (m TO (by simp)) (m i1 (by simp)) (m i2 (by simp)) e
 self:=fun _ _ _ _ _ st h=>Ml st.z h
section
variable{X:Cx}
def Tj(K:Frag)(ta:TA):TI:=fun σ H R=>ta σ H fun vs H1=>∃a b,vs=[.ref a,.ref b]/\(∃xs,eX K H1 a xs)/\(∃ys,eX K H1 b ys)/\R (adE K a b) H1
theorem V7{K:Frag}{e e':Expr}{elts:List Expr}{x1}{tp p pos:Pos}{ta:TA}(hK:X.K=K)(hm:X.mg "zip" = none)(ha:PA X [e,e'] ta)(hg: ~~~(Gl X "zip"))(h1: ~~~(b7 e=true))(h2: ~~~(b7 e'=true)) :
  PI X (.Tuple elts x1 tp) (.Call (.Name "zip" p) [e,e'] [] pos) (Tj K ta):=by
 subst hK;symm;intro R I h;refine uV (jy I hg hm K_ ?_ ⋯ ⋯)
 refine PyProof.Rows.callWith_type1 (cT (ha pos ae s σ H _ I h) fun us s1 ⟨vs,H1,I1,r1,q1⟩=>?_) (cC h1) (cL (es:=[e']) (by simp[h2]))
 obtain⟨a,b,rfl,⟨xs,hx⟩,⟨ys,hy⟩,q⟩:=q1;obtain⟨u,v,rfl,ru,rv⟩:=r1.two;cases ru;cases rv;obtain⟨us,_,pu,_⟩:=I1.tuple hx;obtain⟨ws,_,pw,_⟩:=I1.tuple hy;refine Qn (show s1.heap.IsTuple a us.toArray from pu) (show s1.heap.IsTuple b ws.toArray from pw) fun h' hz hp ho h1 h2 kk=>?_;have I2:Inv X ae σ H1 { s1 with heap:=h' }:=I1.kept (t':=s1.toks) kk
 have fr:∀n,H1 (s1.heap.objs.size+n)=none:=fun n=>I1.hok.fresh (Oz _ _);have fk:∀n,gB X ae H1 (s1.heap.objs.size+n):=fun n=>I1.tY (Oz _ _) (fr n);have ne:∀i j:Nat,i≠j->s1.heap.objs.size+i≠s1.heap.objs.size+j:=fun i j n e=>n (Nat.add_left_cancel e);refine Ml hz ⟨s1.heap.objs.size+4,_,_,adE X.K a b,H1,rfl,I2,BJ kT kT a b (s1.heap.objs.size+4) (s1.heap.objs.size+2) (s1.heap.objs.size+3) s1.heap.objs.size (s1.heap.objs.size+1) (ne _ _ ⋯) (ne _ _ ⋯) (ne _ _ ⋯) (ne 0 _ ⋯) (ne _ _ ⋯) (ne _ 0 ⋯) (ne _ _ ⋯) (ne 0 _ ⋯) (ne _ 0 ⋯) (ne _ _ ⋯),⟨hz,hp,⟨_,_,ho⟩,h1,h2⟩,fun c hc=>?_,q⟩
 simp only[bN,e_,or_false] at hc;rcases hc with rfl | rfl | rfl | rfl | rfl
 ·exact fk 4
 ·exact fk 2
 ·exact fk 3
 ·exact fk 0
 ·exact fk 1
end
abbrev two(elt t1 i1 t2 i2:Expr)(sc:Scope)(pos:Pos):Expr:=.ListComp elt [⟨t1,i1,[],0⟩,⟨t2,i2,[],0⟩] sc pos
section
variable{prog:AC}{w:World}{A:Around}{R:Result->AB->Prop}{s:AB}{elt t1 i1 t2 i2:Expr}{sc:Scope}{pos:Pos}{it acc:AA}{env:Env}
end
theorem bL{X:Cx}{K:Frag}{pos:Pos}{es:List Expr}{k:Nat}{t:QC}{n:Nat}(hK:X.K=K)(hc:X.calm=true)(h:Yy X es t)
  (hn: ~~~((assignEach es X.env).length=n)) (hst: ~~~((assignEach es X.env).findIdx? (·.1)=none)):PG X (.Tuple es k pos) (Kp K n t):=by
 subst hK;exact ZP hc h hn hst
theorem tH{X:Cx}{K:Frag}{tg l:Expr}{tl:TE}(hK:X.K=K)(hl:PE X l tl):PI X tg l (Kl K tl):=by
 subst hK;exact ZJ hl
theorem bM{X:Cx}{K:Frag}{tg l:Expr}{tl:TE}(hK:X.K=K)(hl:PE X l tl):PI X tg l (lE K tl):=by
 subst hK;exact Wa hl
theorem rR{K:Frag}{js:List Nat}{J:It}{te:TE}{σ:St}{H:Hp}{Q:VK}{acc:Addr}{es:List PyData}(xv yv:Nat->V)(hz:es.length<=sizeLine)(hL:bH es=true)(hacc:H acc=none)
  (go:∀i H',i<es.length->aL H H'->J.go i H') (yl:∀i H' v bO,i<es.length->aL H H'->J.Gf i H' v bO->∃p,H' p=none/\v=.ref p/\bO=upd H' p (.tup [xv i,yv i])) (st:∀H',aL H H'->J.stop es.length H')
  (val:∀(i:Nat) e H',es[i]?=some e->aL H H'->∀R:VK,(∀v bO,aL H' bO->At bO e v->R v bO)->te (some (xv i)::some (yv i)::bR js σ) H' R)
  (fin:∀ys H',aL H H'->H' acc=some (.lst ys)->aj (hid acc H') es ys->Q (.ref acc) H') :
  ∃W:Nat->Nat->List V->Hp->Prop,(∃m,W 0 m [] (upd H acc (.lst [])))/\∀i m ys H2,W i m ys H2 ->
   (J.stop i H2/\Q (.ref acc) H2)\/(J.go i H2/\∀x H3,J.Gf i H2 x H3->Kp K 2 (jA (eO 0) (jA (eO 1) Bc)) x (List.replicate 2 none++bR js σ) H3 fun σ' H'=>(σ'.drop 2=bR js σ/\σ'.length=(List.replicate 2 (none:Option V)++bR js σ).length)/\wj σ' H' fun b bO=>
    if b=true then te σ' bO fun y H4=>H4 acc=some (.lst ys)/\ys.length<sizeLine/\∃m',m'<m/\W (i+1) m' (ys++[y]) (upd H4 acc (.lst (ys++[y]))) else ∃m',m'<m/\W (i+1) m' ys bO):=by
 refine⟨fun i m ys H2=>m=es.length-i/\i<=es.length/\aj (hid acc H2) (es.take i) ys/\aL H H2/\H2 acc=some (.lst ys),⟨_,rfl,gU _,aj.nil,aP hacc _,aB⟩,?_⟩;rintro i m ys H2 ⟨rfl,hi,hA,sm,hy⟩;by_cases hlt:i<es.length
 ·refine .inr ⟨go i H2 hlt sm,fun x H3 y=>?_⟩;obtain⟨p,fp,rfl,rfl⟩:=yl i H2 x H3 hlt sm y;refine⟨p,_,rfl,eX.of aB,rfl,(show(_=_/\_=_)/\wj _ _ _ from⟨⟨rfl,by simp⟩,?_⟩)⟩
  unfold wj;simp only[if_true];have e1:es[i]?=some es[i]:=dC hlt;have s3:aL H2 (upd H2 p (.tup [xv i,yv i])):=aP fp _;refine val i _ _ e1 (sm.trans s3) _ fun v H4 s4 a4=>⟨s4 _ _ (s3 _ _ hy),?_,es.length-(i+1),∅,rfl,hlt,?_,?_,aB⟩
  ·rw[hA.length,k_]; omega
  ·rw[nC,Cm,e1];exact aj.append (hA.mono (aL.hid (s3.trans s4))) (aj.cons (At.Ay (s4 _ _ (s3 _ _ hy)) _ _ (rK hL e1) a4) aj.nil)
  ·refine fun b o q=>?_;have nb:b≠acc:=cB q hacc;rw[aJ nb];exact s4 _ _ (s3 _ _ (sm _ _ q))
 ·have e:i=es.length:=by omega
  subst e;rw[pH] at hA;exact .inl ⟨st _ sm,fin _ _ sm hy hA⟩
theorem Qk{K:Frag}{js:List Nat}{a b:Addr}{xs ys:List V}{es:List PyData}{ta:TA}{te:TE}{σ:St}{H:Hp}{Q:VK}(hl:∀R:List V->Hp->Prop,R [.ref a,.ref b] H->ta σ H R)(ha:H a=some (.tup xs))(hb:H b=some (.tup ys))(n1:xs.length=es.length)(n2:ys.length=es.length)(hz:es.length<=sizeLine)(hL:bH es=true)
  (val:∀(i:Nat) x y e H',xs[i]?=some x->ys[i]?=some y->es[i]?=some e->aL H H'->∀R:VK,(∀v bO,aL H' bO->At bO e v->R v bO)->te (some x::some y::bR js σ) H' R)
  (fin:∀acc zs H',aL H H'->H acc=none->H' acc=some (.lst zs)->aj (hid acc H') es zs->Q (.ref acc) H'):fP 2 js (Tj K ta) (Kp K 2 (jA (eO 0) (jA (eO 1) Bc))) wj te σ H Q:=by
 refine hl _ ⟨a,b,rfl,⟨xs,eX.of ha⟩,⟨ys,eX.of hb⟩,fun acc hacc=>?_⟩;have gx:∀i,i<es.length->xs[i]?=some (xs.getD i .non):=fun i hi=>by rw[iV,dC ∅]; rfl
 have gy:∀i,i<es.length->ys[i]?=some (ys.getD i .non):=fun i hi=>by rw[iV,dC ∅]; rfl
 refine rR (es:=es) (fun i=>xs.getD i .non) (fun i=>ys.getD i .non) hz hL hacc (fun i H' hi s=>⟨xs,ys,_,_,eX.of (s _ _ ha),eX.of (s _ _ hb),gx i hi,gy i hi⟩) (fun i H' v bO hi s y=>?_) (fun H' s=>⟨xs,ys,eX.of (s _ _ ha),eX.of (s _ _ hb),.inl n1.symm⟩) (fun i e H' he s R hR=>?_) fun zs H' s h1 h2=>fin acc zs H' s hacc h1 h2
 ·obtain⟨p,x,y,fp,e1,e2,h1,h2⟩:=y;have q1:=h1 xs (eX.of (s _ _ ha));have q2:=h2 ys (eX.of (s _ _ hb));rw[gx i hi] at q1;rw[gy i hi] at q2;cases q1;cases q2;exact⟨p,fp,e1,e2⟩
 ·have hi:i<es.length:=by
   by_cases z:i<es.length
   ·exact z
   ·rw[List.getElem?_eq_none ∅] at he; cases he
  exact val i _ _ e H' (gx i hi) (gy i hi) he s R hR
section
variable{X:Cx}{ae:LA}{σ:St}{H:Hp}{s:AB}{A:Around}{E:AA->AB->Prop}{Q:AA->AB->Prop}{b:Bool}
theorem Kg{x:V}{u t:AA}{tp:Addr}{its:List AA}(I:Inv X ae σ H s)(rx:RelV x u)(ty:uv X.K H x t)(htp:IsTup s.heap tp its.toArray)(e:kitAny X.K t its=some b)(h:∀tk,Q (.bool b) { s with toks:=tk }) :
  wpAny (model X.prog X.w) A (call (.builtin "isinstance") [u,.ref tp]) Q E s:=by
 obtain⟨o,ho,hc,n,hd⟩:=htp;obtain⟨cls,dd,data,sl⟩:=o;cases hc;cases hd;cases ty with
 | non=>cases(show u=Value.none from rx); exact kia_tup kitx_none I.mL True.intro ho e (fun z=>nomatch z) h
 | bl y=>cases(show u=Value.bool y from rx); exact kia_tup kitx_bool I.mL True.intro ho e (fun z=>nomatch z) h
 | int i=>obtain⟨t,q⟩:=(show ∃t,u=Value.int i t from rx); cases q; exact kia_tup kitx_int I.mL True.intro ho e (fun z=>nomatch z) h
 | str y=>obtain⟨t,q⟩:=(show ∃t,u=Value.str y t from rx); cases q; exact kia_tup kitx_str I.mL True.intro ho e (fun z=>nomatch z) h
 | flt y=>obtain⟨t,q⟩:=(show ∃t,u=Value.float y t from rx); cases q; exact kia_tup kitx_float I.mL True.intro ho e (fun z=>nomatch z) h
 | @lst a xs ea=>
  cases(show u=Value.ref a from rx);obtain⟨_,_,n,_,h1⟩:=(show bZ X.prog X.w H s.heap a (.lst xs) from I.hok a _ ea);exact kia_tup kitx_list I.mL ⟨_,h1,rfl⟩ ho e (fun z=>nomatch z) h
 | @tW a ob xs ea=>
  cases(show u=Value.ref a from rx);obtain⟨_,_,_,n,_,h1⟩:=(show bZ X.prog X.w H s.heap a (.tW ob (.lst xs)) from I.hok a _ ea);exact kia_tup kitx_list I.mL ⟨_,h1,rfl⟩ ho e (fun z=>nomatch z) h
 | @tup a xs ea=>
  cases(show u=Value.ref a from rx);obtain⟨_,_,_,p⟩:=(show bZ X.prog X.w H s.heap a (.tup xs) from I.hok a _ ea);obtain⟨o,h1,h2,_⟩:=p;exact kia_tup kitx_tuple I.mL ⟨o,h1,h2⟩ ho e (fun z=>nomatch z) h
 | @dK a kvs ea=>
  cases(show u=Value.ref a from rx);obtain⟨_,_,vs,_,p⟩:=(show bZ X.prog X.w H s.heap a (.dK kvs) from I.hok a _ ea);obtain⟨o,es,ep,h1,h2,_⟩:=p;exact kia_tup kitx_dict I.mL ⟨o,h1,h2.1⟩ ho e (fun z=>nomatch z) h
 | @dT a kvs ea=>
  cases(show u=Value.ref a from rx);obtain⟨_,_,xs,_,o,es,ep,h1,h2,_⟩:=(show bZ X.prog X.w H s.heap a (.dT kvs) from I.hok a _ ea);exact kia_tup kitx_dict I.mL ⟨o,h1,h2.1⟩ ho e (fun z=>nomatch z) h
 | @ins a C dx fs ea cl ha hn htk hm=>
  cases(show u=Value.ref a from rx);obtain⟨mA,O,_⟩:=tQ I.hok ea;obtain⟨od,J,_⟩:=O.look;exact kia_tup (kitx_own (cl.get _) cl.hd ha hn htk hm) I.mL J ho e (fun z=>nomatch z) h
end
section
variable{X:Cx}
theorem aah(K:Frag)(d:PyData):kitAny K (.type (UT d)) [.type "list",.type "tuple"]=some (CV d || isTup d):=by
 show(match kitOne K (.type (UT d)) (.type "list") with | some true=>some true | some false=>(match kitOne K (.type (UT d)) (.type "tuple") with | some true=>some true | some false=>some false | none=>none) | none=>none)=_
 rw[M7,M5];cases CV d <;> cases isTup d <;> rfl
theorem aan:dG X (.builtin "isinstance") (fun vs H Q=>∃(v:V)(d:PyData)(p:Addr),vs=[v,.ref p]/\At H d v/\H p=some (.tup [.ty "list",.ty "tuple"])/\Q (.bl (CV d || isTup d)) H):=by
 symm;intro vs us Q I r h;obtain⟨v,d,p,rfl,hv,hp,q⟩:=h;obtain⟨u,t,rfl,ru,rt⟩:=r.two;cases(show t=Value.ref p from rt);obtain⟨_,its,ri,ht⟩:=(show bZ X.prog X.w H s.heap p (.tup [.ty "list",.ty "tuple"]) from I.hok p _ hp)
 have e:its=[Value.type "list",Value.type "tuple"]:=by
  obtain⟨a,b,rfl,ra,rb⟩:=ri.two;cases(show a=Value.type "list" from ra);cases(show b=Value.type "tuple" from rb);rfl
 subst e;exact Kg I ru (hv.ty (K:=X.K)) ht (aah X.K d) fun tk=>⟨.bl (CV d || isTup d),H,I.tok tk,rfl,q⟩
end
section
variable{X:Cx}
def tNo:TS:=fun _ _ _=>False
theorem Cu{st:Stmt}:PS X st tNo:=.mk <| fun _ _ _ _ _ _ h=>h.elim
end
def QH(h:Heap)(e:Addr)(cls:AA)(T:Addr):Prop:=∃oe vs,h.get? e=some oe/\(oe.cls=cls/\oe.dict=none)/\oe.data=.fields vs/\vs[1]?=some (.ref T)/\vs[2]?=some .none
def Qy(h:Heap)(T:Addr):Prop:=∃oT ts,h.get? T=some oT/\oT.data=.fields ts/\ts[3]?=some .none
structure Yz(fs:List Addr)(h h':Heap)(e T:Addr)(cls:AA):Prop where
 keep:∀b o,b≠e->b∉fs->h.get? b=some o->h'.get? b=some o
 slot:∀b o,b≠e->h.get? b=some o->∃sl,h'.get? b=some { o with slots:=sl }
 fresh:h.objs.size<=T
 ex:QH h' e cls T
 tb:Qy h' T
section
variable{M:Model}{A:Around}{E:AA->AB->Prop}{s:AB}
theorem zH(o:Obj)(f:Array AA->Array AA):(Obj.mapFields f o).dict=o.dict:=by
 obtain⟨c,d,dt,sl⟩:=o;cases dt <;> rfl
theorem entryE{base:Heap}{env:Env}{outer:List Env}{L e:Addr}{oe:Obj}{vs:Array AA}{head:AA}{nx:Bool}{Q:Unit->AB->Prop}
  (fr:A.frames=some (env::outer)) (ff:s.heap.FunFrames base (env::outer)) (fL:env.frame=some L) (he:s.heap.get? e=some oe) (hdn:oe.dict=none) (hd:oe.data=.fields vs) (hz:1<vs.size) (hc:vs[2]?=some .none)
  (q:∀h' T,Yz (frs (env::outer)) s.heap h' e T oe.cls->Q () { s with heap:=h' }) :
  wpAny M A (do
   let a <- frameOf env
   let pl <- entryPlaceOf L nx
   let b <- EntryCells.newEntry head a .none (rawInt L) .none pl
   setField (.ref e) 1 b) (fun _ s'=>wpAny M A (setFlight (.ref e) none) Q E s') E s:=by
 have ne:e∉frs (env::outer):=fun hm=>by
  obtain⟨_,o,ho,hf⟩:=ff.mem hm;rw[he] at ho;cases ho;exact hf vs hd
 refine bh (wpAny_frameOf_fun fr ff fL fun h1 so=>bh (wpAny_entryPlaceOf fun pl hpl=>?_));obtain⟨sz,sk,ss⟩:=so;unfold EntryCells.newEntry newFields;refine bh (uU ?_ (hpl.sizeOk5 _ _ _ _ _));have e1:h1.get? e=some oe:=(sk e ne).trans he;have pe:=eF (h:=h1) { cls:=.type "traceback",data:=.fields (([head,.ref L,.none,rawInt L,.none]:List AA)++(if pl.isEmpty then List.replicate 6 .none else pl)).toArray } e1
 have nT:h1.objs.size≠e:=Eb (bV e1);have pT:=dI h1 (o:={ cls:=.type "traceback",data:=.fields (([head,.ref L,.none,rawInt L,.none]:List AA)++(if pl.isEmpty then List.replicate 6 .none else pl)).toArray }) rfl
 have pk:∀b o,h1.get? b=some o->(h1.push { cls:=.type "traceback",data:=.fields (([head,.ref L,.none,rawInt L,.none]:List AA)++(if pl.isEmpty then List.replicate 6 .none else pl)).toArray }).get? b=some o:=fun b o z=>eF _ z
 refine Cp pe hd hz ?_;generalize h1.push { cls:=.type "traceback",data:=.fields (([head,.ref L,.none,rawInt L,.none]:List AA)++(if pl.isEmpty then List.replicate 6 .none else pl)).toArray }=h2 at pe pT pk ⊢
 have dx:=Obj.data_mapFields hd (·.setIfInBounds 1 (Value.ref h1.objs.size));have pe3:=Hc (Obj.mapFields (·.setIfInBounds 1 (Value.ref h1.objs.size))) pe (Obj.isFreed_of_fields dx);have pT3:=(wC h2 (Obj.mapFields (·.setIfInBounds 1 (Value.ref h1.objs.size))) (Ne.symm nT)).trans pT;have pk3:∀b o,b≠e->h1.get? b=some o->(h2.update e (Obj.mapFields (·.setIfInBounds 1 (Value.ref h1.objs.size)))).get? b=some o:=fun b o z y=>(wC h2 _ (Ne.symm z)).trans (pk b o y);have ce:=Obj.cls_mapFields oe (·.setIfInBounds 1 (Value.ref h1.objs.size));generalize h2.update e (Obj.mapFields (·.setIfInBounds 1 (Value.ref h1.objs.size)))=h3 at pe3 pT3 pk3 ⊢;unfold setFlight;have v1:(vs.setIfInBounds 1 (Value.ref h1.objs.size))[1]?=some (.ref h1.objs.size):=by simp[hz]
 refine bh (iH pe3 dx v1 ?_);rw[aX (show(Value.ref h1.objs.size != Value.none)=true by simp)]
 refine Cp pT3 rfl (by simp only[gb,dg,fH,rm] <;> omega) ?_
 have d4:=Obj.data_mapFields (o:={ cls:=.type "traceback",data:=.fields (([head,.ref L,.none,rawInt L,.none]:List AA)++(if pl.isEmpty then List.replicate 6 .none else pl)).toArray }) rfl (·.setIfInBounds 3 ((none:Option Addr).elim Value.none fun f=>rawInt f))
 have pT4:=Hc (Obj.mapFields (·.setIfInBounds 3 ((none:Option Addr).elim Value.none fun f=>rawInt f))) pT3 (Obj.isFreed_of_fields d4);have o4:∀b,b≠h1.objs.size->(h3.update h1.objs.size (Obj.mapFields (·.setIfInBounds 3 ((none:Option Addr).elim Value.none fun f=>rawInt f)))).get? b=h3.get? b:=fun b z=>wC h3 _ (Ne.symm z);refine q _ h1.objs.size ⟨fun b o z y x=>?_,fun b o z x=>?_,Nat.le_of_eq sz.symm,⟨_,_,(o4 e (Ne.symm nT)).trans pe3,⟨ce,(zH oe _).trans hdn⟩,dx,v1,by rw[Array.getElem?_setIfInBounds]; simpa using hc⟩,⟨_,_,pT4,d4,?_⟩⟩
 ·have x1:h1.get? b=some o:=(sk b y).trans x;exact(o4 b (fG (bV x1))).trans (pk3 b o z x1)
 ·obtain⟨sl,x1⟩:=ss b o x;exact⟨sl,(o4 b (fG (bV x1))).trans (pk3 b _ z x1)⟩
 ·first | (simp; done) | (rcases hpl with rfl | ⟨_,_,_,_,_,_,_,rfl⟩ <;> simp)
theorem WM{base:Heap}{env:Env}{outer:List Env}{L e:Addr}{oe:Obj}{vs:Array AA}{Q:Unit->AB->Prop}
  (fr:A.frames=some (env::outer)) (ff:s.heap.FunFrames base (env::outer)) (fL:env.frame=some L) (he:s.heap.get? e=some oe) (hdn:oe.dict=none) (hd:oe.data=.fields vs) (h1:vs[1]?=some .none) (h2:vs[2]?=some .none)
  (q:∀h' T,Yz (frs (env::outer)) s.heap h' e T oe.cls->Q () { s with heap:=h' }):wpAny M A (leaving env (.ref e)) Q E s:=by
 unfold leaving noteFrame;simp only[fL];refine bh (bh (iH he hd h1 ?_));rw[aQ ⋯]
 exact entryE fr ff fL he hdn hd (VM.mp h1).1 h2 q
structure aaQ(fs:List Addr)(h h':Heap)(e T0 T:Addr)(cls:AA):Prop where
 keep:∀b o,b≠e->b≠T0->b∉fs->h.get? b=some o->h'.get? b=some o
 slot:∀b o,b≠e->b≠T0->h.get? b=some o->∃sl,h'.get? b=some { o with slots:=sl }
 old:∃o,h'.get? T0=some o
 fresh:h.objs.size<=T
 ex:QH h' e cls T
 tb:Qy h' T
theorem noteE2{base:Heap}{env:Env}{outer:List Env}{L e T0:Addr}{cls:AA}{Q:Unit->AB->Prop}
  (fr:A.frames=some (env::outer)) (ff:s.heap.FunFrames base (env::outer)) (fL:env.frame=some L) (he:QH s.heap e cls T0) (hT:Qy s.heap T0) (nT:T0≠e)
  (q:∀h' T,aaQ (frs (env::outer)) s.heap h' e T0 T cls->Q () { s with heap:=h' }) :
  wpAny M A (noteFrame (.ref e) env) (fun _ s2=>wpAny M A (setFlight (.ref e) none) Q E s2) E s:=by
 obtain⟨oe,vs,e1,⟨ec,edn⟩,ed,ev,ev2⟩:=he;obtain⟨oT,ts,t1,td,tv⟩:=hT;subst ec;unfold noteFrame;simp only[fL];refine bh (iH e1 ed ev ?_);rw[aX (show(Value.ref T0 != Value.none)=true by simp)]
 refine bh (iH t1 td tv ?_);rw[aQ (show ¬((Value.none==rawInt L)=true) by simp[rawInt])]
 have tz:=(VM.mp tv).1;refine bh (Cp t1 td tz ?_);have dT:=Obj.data_mapFields td (·.setIfInBounds 3 Value.none);have g1:=Hc (Obj.mapFields (·.setIfInBounds 3 Value.none)) t1 (Obj.isFreed_of_fields dT);have g2:∀b,b≠T0->(s.heap.update T0 (Obj.mapFields (·.setIfInBounds 3 Value.none))).get? b=s.heap.get? b:=fun b z=>wC _ _ (Ne.symm z);have gz:(s.heap.update T0 (Obj.mapFields (·.setIfInBounds 3 Value.none))).objs.size=s.heap.objs.size:=Heap.size_after_update ..
 have f2:(s.heap.update T0 (Obj.mapFields (·.setIfInBounds 3 Value.none))).FunFrames base (env::outer):=ff.of_keeps fun b o ho hf=>⟨o,(g2 b fun z=>by
  rw[z,t1] at ho;cases ho
  exact hf ts td).trans ho,rfl⟩
 generalize s.heap.update T0 (Obj.mapFields (·.setIfInBounds 3 Value.none))=h2 at g1 g2 gz f2 ⊢;refine entryE (s:={ s with heap:=h2 }) fr f2 fL ((g2 e (Ne.symm nT)).trans e1) edn ed (VM.mp ev).1 ev2 fun h' T l=>?_
 have nf:T0∉frs (env::outer):=fun hm=>by
  obtain⟨_,o,ho,hf⟩:=ff.mem hm;rw[t1] at ho;cases ho;exact hf ts td
 exact q h' T ⟨fun b o z y x u=>l.keep b o z x ((g2 b y).trans u),fun b o z y u=>l.slot b o z ((g2 b y).trans u),⟨_,l.keep _ _ nT nf g1⟩,by rw[<- gz]; exact l.fresh,l.ex,l.tb⟩
end
section
variable{P:AC}{w:World}{H H':Hp}{h h':Heap}{a:Addr}{o:HO}
theorem bZ.there(x:bZ P w H h a o):∃u,h.get? a=some u:=by
 cases o with
 | lst xs=>obtain⟨_,_,_,_,e⟩:=x; exact⟨_,e⟩
 | tup xs=>obtain⟨_,_,_,ob,e,_⟩:=x; exact⟨_,e⟩
 | dK kvs=>obtain⟨_,_,_,_,o,_,_,e,_⟩:=x; exact⟨_,e⟩
 | dT kvs=>obtain⟨_,_,_,_,o,_,_,e,_⟩:=x; exact⟨_,e⟩
 | set S n=>obtain⟨o,_,_,_,e,_⟩:=x; exact⟨_,e⟩
 | ins C dx fs=>obtain⟨_,_,_,e,_⟩:=x; exact⟨_,e⟩
 | own y=>exact x
 | xd fs=>obtain⟨_,⟨_,_,_,e,_⟩,_⟩:=x; exact⟨_,e⟩
 | rng lo hi=>obtain⟨_,_,_,e⟩:=x; exact⟨_,e⟩
 | tW ob u=>obtain⟨e,_⟩:=x; exact⟨_,e⟩
 | Xq ps=>exact⟨_,(show h.get? a=some _ from x)⟩
 | met f y=>exact⟨_,(show h.get? a=some _ from x)⟩
 | ext φ=>obtain⟨_,e,_⟩:=x; exact e
theorem lJ.none(x:lJ P w H h)(e:h.get? a=none):H a=none:=by
 cases q:H a with
 | none=>rfl
 | some u=>
  obtain⟨v,z⟩:=(x a u q).there;rw[e] at z; cases z
def zX(e:Addr)(cls:AA)(T:Addr):HO:=.ext fun h=>QH h e cls T
def Bt(T:Addr):HO:=.ext fun h=>Qy h T
def Vc(T:Addr):HO:=.ext fun h=>∃o,h.get? T=some o
theorem SM{e T:Addr}{cls:AA}(x:QH h e cls T):bZ P w H h e (zX e cls T):=by
 refine⟨x,?_,?_⟩
 ·obtain⟨oe,vs,e1,_⟩:=x; exact⟨_,e1⟩
 ·rintro h1 h2 ⟨oe,vs,e1,r⟩ k;exact⟨oe,vs,k _ e1,r⟩
theorem MF{T:Addr}(x:Qy h T):bZ P w H h T (Bt T):=by
 refine⟨x,?_,?_⟩
 ·obtain⟨oe,vs,e1,_⟩:=x; exact⟨_,e1⟩
 ·rintro h1 h2 ⟨oe,vs,e1,r⟩ k;exact⟨oe,vs,k _ e1,r⟩
theorem Yh{T:Addr}(x:∃o,h.get? T=some o):bZ P w H h T (Vc T):=by
 refine⟨x,x,?_⟩;rintro h1 h2 ⟨oe,e1⟩ k;exact⟨oe,k _ e1⟩
theorem zX.at{e T:Addr}{cls:AA}(x:bZ P w H h e (zX e cls T)):QH h e cls T:=x.1
theorem Bt.at{T:Addr}(x:bZ P w H h T (Bt T)):Qy h T:=x.1
theorem lJ.ext(x:lJ P w H h)(S:Addr->Prop)(k:∀b u v,H b=some u->¬S b->h.get? b=some v->h'.get? b=some v)(hs:∀b,S b->H b=Option.none\/∃φ,H b=some (.ext φ))
  (o1:∀b,¬S b->H' b=H b) (o2:∀b u,S b->H' b=some u->bZ P w H' h' b u):lJ P w H' h':=fun b u e=>by
 by_cases z:S b
 ·exact o2 b u z e
 ·rw[o1 b z] at e;refine(x b u e).stay (fun c v q y=>?_) (fun c q=>?_) (fun c xs q=>?_)
  ·rcases q with q | q
   ·subst q; exact k c u v e z y
   ·exact k c _ v q (fun y'=>(hs c y').elim (fun n=>by rw[n] at q; cases q) fun⟨φ,n⟩=>by rw[n] at q; cases q) y
  ·rw[o1 c fun y'=>(hs c y').elim (fun n=>by rw[n] at q; cases q) fun⟨φ,n⟩=>by rw[n] at q; cases q]; exact q
  ·rw[o1 c fun y'=>(hs c y').elim (fun n=>by rw[n] at q; cases q) fun⟨φ,n⟩=>by rw[n] at q; cases q]; exact q
end
def nZ(P:AC)(w:World):Ob:=fun outer H s E e s'=>∃(a T:Addr)(cls:AA)(H':Hp),e=.ref a/\s'.os=s.os/\AllBare s'.gens/\Un (frs outer) [] H H' s.heap s'.heap/\lJ P w H' s'.heap /\
 H' a=some (zX a cls T)/\H' T=some (Bt T)/\T≠a/\(s.heap.get? a=none/\s.heap.get? T=none)/\E cls none H'
section
variable{P:AC}{w:World}{K:Frag}{mg:Str->Option AA}{base:Heap}{N:List Str}{qual:Str}{scope:Scope}{f:Addr}{cd:AA}{A:Around}{outer:List Env}{s0:AB}{H0:Hp}{E:XK}
theorem JK{ae:LA}{σ:St}{H:Hp}{s:AB}{h2:Heap}{e C:Addr}{us:List AA}(I:Inv (iC (nZ P w) P w K mg base N qual scope f cd A outer s0 H0 E) ae σ H s)
  (m:Heap.MadeExcOf s.heap h2 e (.ref C) us) (U3:lJ P w H0 s0.heap) (q:∀H',aL H H'->E (.ref C) none H'):(iC (nZ P w) P w K mg base N qual scope f cd A outer s0 H0 E).xe (.ref e) { s with heap:=h2 }:=by
 obtain⟨t,he,_,_⟩:=m.there;have ff:h2.FunFrames base (envOfC qual scope s0.heap.objs.size f cd::outer):=(I.stack:s.heap.FunFrames base (envOfC qual scope s0.heap.objs.size f cd::outer)).of_keeps fun b o ho _=>⟨o,m.keeps b o ho,rfl⟩;have fr:(A.deeper (envOfC qual scope s0.heap.objs.size f cd)).frames=some (envOfC qual scope s0.heap.objs.size f cd::outer):=I.ok.frames;refine WM (s:={ s with heap:=h2 }) fr ff rfl he rfl rfl rfl rfl fun h3 T l=>?_
 have ne:H e=none:=I.hok.none m.new
 have nT:H T=none:=I.hok.none (by
  cases z:s.heap.get? T with
  | none=>rfl
  | some o=>exact absurd (bV (m.keeps _ _ z)) (Nat.not_lt.mpr l.fresh))
 have Te:T≠e:=fun z=>by
  obtain⟨oe,vs,e1,e2,e3,e4⟩:=l.ex;obtain⟨oT,ts,t1,t2,t3⟩:=l.tb;have:=bV he;have:=l.fresh;have:e<h2.objs.size:=bV he;subst z;exact absurd this (Nat.not_lt.mpr l.fresh)
 have iL:∀b o,s0.heap.get? b=some o->b≠s0.heap.objs.size:=fun b o z=>fG (bV z);have ib:Un (frs outer) [] H0 H s0.heap s.heap:=I.base;have u1:∀b,b≠T->b≠e->upd (upd H e (zX e (.ref C) T)) T (Bt T) b=H b:=fun b y z=>by rw[aJ y,aJ z]
 have nb:∀b o,s.heap.get? b=some o->b≠e:=fun b o z y=>by rw[y,m.new] at z; cases z
 have nbT:∀b o,s.heap.get? b=some o->b≠T:=fun b o z y=>by
  have a1:=bV (m.keeps b o z);have a2:h2.objs.size<=T:=l.fresh;subst y;exact Nat.not_lt.mpr a2 a1
 have nf:∀b,b∉frs outer->b≠s0.heap.objs.size->b∉frs (envOfC qual scope s0.heap.objs.size f cd::outer):=fun b y z hm=>by
  rcases bN.mp (show b∈s0.heap.objs.size::frs outer from hm) with x | x
  ·exact z x
  ·exact y x
 have hu:∀b u,H b=some u->b≠e/\b≠T:=fun b u z=>⟨fun y=>(by rw[y,ne] at z; cases z),fun y=>(by rw[y,nT] at z; cases z)⟩
 refine⟨e,T,.ref C,upd (upd H e (zX e (.ref C) T)) T (Bt T),rfl,I.os,I.bare,⟨fun b o z n y _=>?_,fun b o z n y x=>?_,fun b o z n x=>?_,fun b o z x=>?_,fun b xs z=>?_,fun b o u z=>?_,fun b ps z=>?_⟩,?_,?_,aB,Te,⟨?_,?_⟩,?_⟩
 ·have g:=ib.keep b o z n y (by simp)
  exact l.keep b o (nb b o g) (nf b y (iL b o z)) (m.keeps b o g)
 ·obtain⟨sl,g⟩:=ib.slot b o z n y x;obtain⟨sl2,g2⟩:=l.slot b _ (nb b _ g) (m.keeps b _ g);exact⟨sl2,g2⟩
 ·obtain⟨o',g⟩:=ib.there b o z x;rw[u1 b (nbT b _ g) (nb b _ g)];exact ib.free b o z n x
 ·obtain⟨o',g⟩:=ib.there b o z x;obtain⟨sl2,g2⟩:=l.slot b _ (nb b _ g) (m.keeps b _ g);exact⟨_,g2⟩
 ·have g:=ib.tups b xs z;rw[u1 b (hu b _ g).2 (hu b _ g).1]; exact g
 ·have g:=ib.wN b o u z;rw[u1 b (hu b _ g).2 (hu b _ g).1]; exact g
 ·obtain⟨more,g⟩:=ib.Ab b ps z;exact⟨more,by rw[u1 b (hu b _ g).2 (hu b _ g).1]; exact g⟩
 ·refine(show lJ P w H s.heap from I.hok).ext (fun b=>b=e\/b=T) (fun b u v z y x=>?_) (fun b z=>?_) (fun b z=>?_) (fun b u z y=>?_)
  ·have g:=(I.hok b u z).there;refine l.keep b v (fun q=>y (.inl q)) (fun hm=>?_) (m.keeps b v x);have:=I.wU b hm;rw[z] at this; cases this
  ·rcases z with rfl | rfl
   ·exact .inl ne
   ·exact .inl nT
  ·exact u1 b (fun q=>z (.inr q)) fun q=>z (.inl q)
  ·rcases z with rfl | rfl
   ·rw[aJ (Ne.symm Te),aB] at y;cases y;exact SM l.ex
   ·rw[aB] at y;cases y;exact MF l.tb
 ·rw[aJ (Ne.symm Te),aB]
 ·cases z:s0.heap.get? e with
  | none=>rfl
  | some o=>
   obtain⟨o',g⟩:=ib.there e o z (by simp)
   rw[m.new] at g; cases g
 ·cases z:s0.heap.get? T with
  | none=>rfl
  | some o=>
   obtain⟨o',g⟩:=ib.there T o z (by simp)
   exact absurd rfl (nbT T o' g)
 ·exact q _ ((aP ne _).trans (aP (by rw[aJ Te]; exact nT) _))
end
def YZ:List AA:=[.type "ValueError",.type "Exception",.type "BaseException",.type "object"]
structure ExC(K:Frag)(mg:Str->Option AA)(x:Str)(C:Addr):Prop where
 bound:mg x=some (.ref C)
 ok:excIn K C YZ "ValueError.__new__" = true
theorem ExC.obj{K:Frag}{C:Addr}{h:Heap}(X:K.In h)(q:excIn K C YZ "ValueError.__new__" = true) :
  ∃bm N nm qn bs hdct sn sub ab col dd k0 k1 k2 k3 k5 mN,h.get? C=some (excClassObj nm qn C N bs bm hdct sn sub ab col dd k0 k1 k2 k3 k5 "ValueError.__new__")/\h.Ns N mN/\mN "__init__" = none/\OwnTail h YZ bm:=by
 unfold excIn at q;split at q
 ·rename_i dd cd sl ho;split at q
  ·rename_i C' bm k0 k1 k2 k3 n k5 hm hs;simp only[GP,beq_iff_eq,Bool.not_eq_true'] at q;obtain⟨⟨⟨⟨⟨rfl,rfl⟩,a1⟩,a2⟩,a3⟩,a4⟩:=q;cases cd with
   | mk nm bs mro ns qn hd sn sub ab col del=>
    dsimp only at hm a1 a3 a4;subst hm a1;obtain⟨l⟩:=sl;have e:l=[k0,k1,k2,k3,some (.builtin "ValueError.__new__"),k5]:=hs;subst e;exact⟨bm,ns,nm,qn,bs,hd,sn,sub,ab,col,dd,k0,k1,k2,k3,k5,_,X _ _ ho,.of_isNs (PySem.W.isNs_of_in X a3),PySem.W.nsMap_none_of_in X a3 a4,PySem.W.tail_of_in X a2⟩
  ·cases q
 ·cases q
def Rc(E:XK)(C:Addr)(ta:TA):TS:=fun _ σ H=>ta σ H fun vs H1=>vs.length<=sizeLine/\∀H',aL H1 H'->E (.ref C) none H'
section
variable{P:AC}{w:World}{K:Frag}{mg:Str->Option AA}{base:Heap}{N:List Str}{qual:Str}{scope:Scope}{f:Addr}{cd:AA}{A:Around}{outer:List Env}{s0:AB}{H0:Hp}{E:XK}
theorem R1{x:Str}{C:Addr}{e0:Expr}{np cpos pos:Pos}{ta:TA}(c:ExC K mg x C)(U3:lJ P w H0 s0.heap)(ha:PA (iC (nZ P w) P w K mg base N qual scope f cd A outer s0 H0 E) [e0] ta)(hg: ~~~(Gl (iC (nZ P w) P w K mg base N qual scope f cd A outer s0 H0 E) x))
  (hd:((x==("__debug__" : Str))=false)⁻¹)
  (he: ~~~(starEach [e0] (iC (nZ P w) P w K mg base N qual scope f cd A outer s0 H0 E).env=[(false,eval e0 (iC (nZ P w) P w K mg base N qual scope f cd A outer s0 H0 E).env)])) :
  PS (iC (nZ P w) P w K mg base N qual scope f cd A outer s0 H0 E) (.Raise (some (.Call (.Name x np) [e0] [] cpos)) none pos) (Rc E C ta):=by
 symm;intro D I h;obtain⟨bm,N1,nm,qn,bs,hdct,sn,sub,ab,col,dd,k0,k1,k2,k3,k5,mN,hC,hN,hni,T⟩:=ExC.obj (show K.In base from I.mod.Tc) c.ok;have bk:∀{s:AB}{H:Hp}{σ:St},Inv (iC (nZ P w) P w K mg base N qual scope f cd A outer s0 H0 E) ae σ H s->∀b o,base.get? b=some o->s.heap.get? b=some o:=fun I=>I.bk;refine wpAny_Raise_call_subU (C:=C) (nm:=nm) (q:=qn) (N:=N1) (bs:=bs) (bm:=bm) (hdct:=hdct) (sn:=sn) (sub:=sub) (ab:=ab) (col:=col) (dd:=dd) (k0:=k0) (k1:=k1) (k2:=k2) (k3:=k3) (k5:=k5) (newId:="ValueError.__new__")
  PySem.F.excBase_ValueError ⋯ PySem.F.excBase_ValueError (mN:=mN) (T.hasType PySem.F.excBase_ValueError.hasBase) (I.ok.hd rfl) (by rw[he]; rfl) hni (tO I hg c.bound ⟨rfl,?_⟩ hd)
 have g:=ha cpos ae s σ H _ I h;rw[he] at g ⊢;refine Calls.evalArgs_plain (jW g (fun us s2 z=>?_) fun _ _ y=>y);obtain⟨vs,H2,I2,rv,l2,q2⟩:=z;refine⟨rfl,by rw[<- rv.length]; exact l2,bk I2 _ _ hC,hN.keeps (bk I2),T.keeps (bk I2),fun h' e m=>JK I2 m U3 q2⟩
end
section
variable{X:Cx}{ae:LA}{σ:St}{H:Hp}{s:AB}
end
section
variable{X:Cx}{ae:LA}{σ:St}{H:Hp}{s:AB}
abbrev Cx.in'(X:Cx)(e:AA):Cx:={ X with A:=X.A.mark (some e),calm:=false }
theorem Inv.inE(I:Inv X ae σ H s)(e:AA):Inv (X.in' e) ae σ H s:=
 ⟨⟨I.ok.mod,I.ok.kind,I.ok.glob,I.ok.blt,I.ok.above,I.ok.inj,I.ok.has,I.ok.cab,(fun z=>nomatch z),I.ok.frames,I.ok.stk,I.ok.exf,I.ok.bs,I.ok.Qw,I.ok.HW,I.ok.Ks,I.ok.vf,I.ok.Yl⟩,I.os,I.bare,I.base,I.loc,I.cell,I.free,I.j_,I.pin,I.hok,I.len⟩
theorem Inv.Wj{e:AA}(I:Inv (X.in' e) ae σ H s)(ok:X.Ok):Inv X ae σ H s:=⟨ok,I.os,I.bare,I.base,I.loc,I.cell,I.free,I.j_,I.pin,I.hok,I.len⟩
theorem Inv.ext{H':Hp}{h':Heap}(I:Inv X ae σ H s)(S:Addr->Prop)(keep:∀b o,¬S b->b∉frs X.stack->s.heap.get? b=some o->h'.get? b=some o)(slot:∀b o,¬S b->s.heap.get? b=some o->∃sl,h'.get? b=some { o with slots:=sl })
  (there:∀b o,S b->s.heap.get? b=some o->∃o',h'.get? b=some o') (hs:∀b,S b->(H b=none/\s.heap.get? b=none)\/∃φ,H b=some (.ext φ))
  (o1:∀b,¬S b->H' b=H b) (o2:∀b u,S b->H' b=some u->bZ X.prog X.w H' h' b u):Inv X ae σ H' { s with heap:=h' }:=by
 have un:∀b o,s.heap.get? b=some o->H b=none->¬S b:=fun b o e n z=>by
  rcases hs b z with⟨_,q⟩ | ⟨φ,q⟩
  ·rw[e] at q; cases q
  ·rw[n] at q; cases q
 have tr:∀b u,H b=some u->(∀φ,u≠.ext φ)->H' b=some u:=fun b u e n=>by
  rw[o1 b fun z=>(hs b z).elim (fun q=>by rw[q.1] at e; cases e) fun⟨φ,q⟩=>by rw[q] at e; cases e; exact n φ rfl]
  exact e
 refine I.call (ch:=[]) (g':=s.gens) (t':=s.toks) (d':=s.drawn) ⟨fun b o e n hb _=>keep b o (un b o e n) hb e,fun b o e n hb _=>slot b o (un b o e n) e,fun b o e n _=>(by rw[o1 b (un b o e n)]; exact n),fun b o e _=>?_,fun b xs e=>tr b _ e (fun φ z=>by cases z),fun b o u e=>tr b _ e (fun φ z=>by cases z),fun b ps e=>⟨#[],(by rw[tr b _ e (fun φ z=>by cases z)]; simp)⟩⟩ ?_ I.bare fun b z=>nomatch z
 ·by_cases z:S b
  ·exact there b o z e
  ·obtain⟨sl,q⟩:=slot b o z e; exact⟨_,q⟩
 ·refine I.hok.ext S (fun b u v e z q=>?_) (fun b z=>(hs b z).elim (fun q=>.inl q.1) .inr) o1 o2;refine keep b v z (fun hm=>?_) q;have:=I.wU b hm;rw[e] at this; cases this
theorem Qd{M:Model}{A:Around}{E:AA->AB->Prop}{a T:Addr}{cls:AA}{Q:Unit->AB->Prop}(I:Inv X ae σ H s)(ha:H a=some (zX a cls T))(hT:H T=some (Bt T))(q:∀s',Inv X ae σ H s'->Q () s') :
  wpAny M A (setFlight (.ref a) none) Q E s:=by
 obtain⟨oe,vs,e1,ec,ed,ev,_⟩:=zX.at (I.hok a _ ha);obtain⟨oT,ts,t1,td,tv⟩:=Bt.at (I.hok T _ hT);unfold setFlight;refine bh (iH e1 ed ev ?_);rw[aX (show(Value.ref T != Value.none)=true by simp)]
 have tz:=(VM.mp tv).1;refine Cp t1 td tz ?_;have dT:=Obj.data_mapFields td (·.setIfInBounds 3 ((none:Option Addr).elim Value.none fun f=>rawInt f));have g1:=Hc (Obj.mapFields (·.setIfInBounds 3 ((none:Option Addr).elim Value.none fun f=>rawInt f))) t1 (Obj.isFreed_of_fields dT);have g2:∀b,b≠T->(s.heap.update T (Obj.mapFields (·.setIfInBounds 3 ((none:Option Addr).elim Value.none fun f=>rawInt f)))).get? b=s.heap.get? b:=fun b z=>wC _ _ (Ne.symm z);refine q _ (I.ext (fun b=>b=T) (fun b o z _ e=>(g2 b z).trans e) (fun b o z e=>⟨o.slots,(g2 b z).trans e⟩) (fun b o z e=>by subst z; exact⟨_,g1⟩) (fun b z=>.inr (by subst z; exact⟨_,hT⟩)) (fun _ _=>rfl) fun b u z e=>?_)
 subst z;rw[hT] at e;cases e;exact MF ⟨_,_,g1,dT,by simp[tz]⟩
end
def adG(H:Hp)(a:Addr)(cls:AA):Prop:=∃T,H a=some (zX a cls T)
section
variable{X:Cx}{ae:LA}{σ:St}{H1:Hp}{s1 s':AB}
end
section
variable{P:AC}{w:World}{K:Frag}{mg:Str->Option AA}{base:Heap}
theorem T7{CX:Ob}{k:Nat}{f:Addr}{name qual:Str}{params:Arguments}{body:List Stmt}{scope:Scope}{dV kV doc pm cdv ct oc:AA}{an od:Option Addr}
  {osl:Array (Option AA)} {N ps:List Str} {sp:Sp} (lk:K.lookup f=some ⟨oc,od,.func (fnOf name qual params body scope dV kV doc pm an cdv ct),osl⟩) (hcd:codeIn K cdv qual=true) (S:bf N ps scope)
  (len:∀vs H Q E,sp vs H Q E->vs.length=ps.length)
  (hbody:∀(A:Around)(outer:List Env)(s:AB)(H:Hp)(vs:List V)(Q:VK)(E:XK),lJ P w H s.heap->fU k (A.deeper (envOfC qual scope s.heap.objs.size f cdv))->sp vs H Q E ->
   ∃t,Dw (iC CX P w K mg base N qual scope f cdv A outer s H E) body t/\t { nx:=fun _ H'=>Q .non H',rt:=Q } (start N vs) H) :
  bI P w K mg base CX (k+1) f (fnOf name qual params body scope dV kV doc pm an cdv ct) ps sp:=by
 refine⟨len,fun A outer s H args us vs Q E hr e0 hb r hsp=>?_⟩;have hl:=len _ _ _ _ hsp;have KX:K.In s.heap:=e0.mod.Tc.keeps fun b o e=>(e0.bs b o e).1;have lim:s.heap.NoLimit:=e0.mod.nolimit.keeps fun b o e=>(e0.bs b o e).1
 have hkind:∀y∈ps.zip us,scope.names.lookup y.1=some .local\/(scope.names.lookup y.1=some .cell/\((cellsFrom (s.heap.objs.size+1) scope.names []).lookup y.1).isSome=true):=fun⟨n,v⟩ hy=>by
  rcases S.par n (Hn hy).1 with q | q
  ·exact .inl q
  ·exact .inr ⟨q,cellsFrom_some _ _ _ (.inl q)⟩
 refine codeAny_call_function hr.depth (KX _ _ lk) rfl S.co S.gen rfl (codeRec_of KX hcd) (hb _ _ _ _ ?_);refine wpAny_newFunctionEnv_cells S.kind hkind fun env he s1 x=>?_;subst he;refine⟨lim.keeps x.toInCall.keep,codeAny_func ?_⟩;obtain⟨t,ht,hq⟩:=hbody A outer s H vs Q E e0.hok (hr.deeper _) hsp;have I:Inv (iC CX P w K mg base N qual scope f cdv A outer s H E) [] (start N vs) H s1:=CW S hr.hd e0 hl r x;refine jW (ht [] s1 (start N vs) H _ I hq) (fun fl s' hs=>?_) fun e s' hs=>hs
 have fin:∀{σ':St}{H':Hp}{v:V}{u:AA},Inv (iC CX P w K mg base N qual scope f cdv A outer s H E) [] σ' H' s'->RelV v u->Q v H'->CE outer P w H s Q u s':=
  fun {σ' H' v u} J rv q=>⟨v,H',J.os,J.bare,J.base,J.hok,rv,q⟩
 cases fl with
 | ret u=>
  obtain⟨v,σ',H',J,rv,q⟩:=hs;exact fin J rv q
 | next=>
  obtain⟨σ',H',J,q⟩:=hs;exact fin (v:=V.non) (u:=Value.none) J rfl q
 | brk=>
  obtain⟨_,_,_,q⟩:=hs;exact False.elim q
 | cont=>
  obtain⟨_,_,_,q⟩:=hs;exact False.elim q
theorem iT.okE{x qual:Str}{st:Stmt}{f:Addr}{fd:FuncData}{N ps:List Str}{k:Nat}{sp:Sp}(F:iT K x qual st f fd)(S:bf N ps (aK st))(len: autoParam (∀vs H Q E,sp vs H Q E->vs.length=ps.length) zg._auto_1)
  (hbody:∀(cdv:AA)(A:Around)(outer:List Env)(s:AB)(H:Hp)(vs:List V)(Q:VK)(E:XK),lJ P w H s.heap->fU k (A.deeper (envOfC qual (aK st) s.heap.objs.size f cdv))->sp vs H Q E ->
   ∃t,Dw (iC (nZ P w) P w K mg base N qual (aK st) f cdv A outer s H E) (b8 st) t/\t { nx:=fun _ H'=>Q .non H',rt:=Q } (start N vs) H):bI P w K mg base (nZ P w) (k+1) f fd ps sp:=by
 obtain⟨oc,od,kV,doc,pm,an,cdv,ct,osl,rfl,lk,hcd⟩:=F.ex;exact T7 lk hcd S len fun A outer s H vs Q E U3 hr hsp=>hbody cdv A outer s H vs Q E U3 hr hsp
structure Va(P:AC)(w:World)(K:Frag)(mg:Str->Option AA)(base:Heap)(k:Nat)(x:Str)(ps:List Str)(sp:Sp) where
 f:Addr
 fd:FuncData
 G:bI P w K mg base (nZ P w) k f fd ps sp
 kp:keepIn K (.ref f)=true
 b:Binds K fd ps []
 m:mg x=some (.ref f)
def Va.mono{j k:Nat}{x:Str}{ps:List Str}{sp:Sp}(c:Va P w K mg base j x ps sp)(h:j<=k):Va P w K mg base k x ps sp:={ c with G:=c.G.mono h }
def Va.calm{k:Nat}{x:Str}{ps:List Str}{sp:Sp}(c:Va P w K mg base k x ps sp):Ct P w K mg base k x ps (fun vs H Q _=>sp vs H Q E0):=⟨c.f,c.fd,⟨fun vs H Q E h=>c.G.len _ _ _ _ h,fun A outer s H args us vs Q E hr he hb hv h=>codeAny_mono (c.G.run A outer s H args us vs Q E0 hr he hb hv h) fun r s' z=>by
 cases r with
 | error e=>
  obtain⟨_,_,_,_,_,_,_,_,_,_,_,_,_,q⟩:=z;exact q.elim
 | ok fl=>cases fl <;> exact z⟩,c.kp,c.b,c.m⟩
end
section
variable{prog:AC}{w:World}{A:Around}{E:AA->AB->Prop}{s:AB}{K:Frag}{x D:Addr}{ox:Obj}{od:Option Obj}
structure ExK(K:Frag)(D:Addr):Prop where
 ga:findIn K (.ref D) "__getattribute__" = some (some (.builtin "BaseException.__getattribute__"))
 gt:findIn K (.ref D) "__getattr__" = some none
 fo:findObj K D none "__class__" = some (.bind (.builtin "getset_descriptor.__get__") (.builtin "object.__class__"))
 sb:subIn K (.ref D) (.type "BaseException")=some true
 ob:mroIn K D (.type "object")=some true
end
section
variable{X:Cx}
end
section
variable{P:AC}{w:World}{K:Frag}{mg:Str->Option AA}{base:Heap}{N:List Str}{qual:Str}{scope:Scope}{f:Addr}{cd:AA}{A:Around}{outer:List Env}{s0:AB}{H0:Hp}{E:XK}
theorem O5{ae:LA}{σ:St}{H1:Hp}{s1 s':AB}{e:AA}{E':XK}(I:Inv (iC (nZ P w) P w K mg base N qual scope f cd A outer s0 H0 E) ae σ H1 s1)(c:nZ P w (envOfC qual scope s0.heap.objs.size f cd::outer) H1 s1 E' e s')
  (hE:∀cls H2,E' cls none H2->∀H3,(aL H1 H2->aL H1 H3)->E cls none H3):(iC (nZ P w) P w K mg base N qual scope f cd A outer s0 H0 E).xe e s':=by
 obtain⟨a,T0,cls,H2,rfl,os,bare,un,hok,ha,hT0,n0,⟨na',Z_⟩,q⟩:=c;have na:H1 a=none:=I.hok.none na';have nT0:H1 T0=none:=I.hok.none Z_;have q:=hE cls H2 q;have I2:Inv (iC (nZ P w) P w K mg base N qual scope f cd A outer s0 H0 E) ae σ H2 s':=I.call' (ch:=[]) os un hok bare fun b z=>nomatch z
 have ff:s'.heap.FunFrames base (envOfC qual scope s0.heap.objs.size f cd::outer):=I2.stack;have fr:(A.deeper (envOfC qual scope s0.heap.objs.size f cd)).frames=some (envOfC qual scope s0.heap.objs.size f cd::outer):=I2.ok.frames;show wpAny _ _ (leaving (envOfC qual scope s0.heap.objs.size f cd) (.ref a)) _ _ _;unfold leaving;refine bh ?_;refine noteE2 fr ff rfl (zX.at (hok a _ ha)) (Bt.at (hok T0 _ hT0)) n0 fun h3 T nt=>?_
 have fT:s'.heap.get? T=none:=by
  cases z:s'.heap.get? T with
  | none=>rfl
  | some o=>exact absurd (bV z) (Nat.not_lt.mpr nt.fresh)
 have nT:H2 T=none:=hok.none fT;have Ta:T≠a:=fun z=>by rw[z,ha] at nT; cases nT
 have TT:T≠T0:=fun z=>by rw[z,hT0] at nT; cases nT
 have I3:Inv (iC (nZ P w) P w K mg base N qual scope f cd A outer s0 H0 E) ae σ (upd (upd (upd H2 T0 (Vc T0)) a (zX a cls T)) T (Bt T)) { s' with heap:=h3 }:=by
  refine I2.ext (fun b=>b=a\/b=T0\/b=T) (fun b o z y x=>nt.keep b o (fun w=>z (.inl w)) (fun w=>z (.inr (.inl w))) y x) (fun b o z x=>nt.slot b o (fun w=>z (.inl w)) (fun w=>z (.inr (.inl w))) x) (fun b o z x=>?_) (fun b z=>?_) (fun b z=>?_) (fun b u z y=>?_)
  ·rcases z with rfl | rfl | rfl
   ·obtain⟨oe,vs,e1,_⟩:=nt.ex; exact⟨_,e1⟩
   ·exact nt.old
   ·rw[fT] at x; cases x
  ·rcases z with rfl | rfl | rfl
   ·exact .inr ⟨_,ha⟩
   ·exact .inr ⟨_,hT0⟩
   ·exact .inl ⟨nT,fT⟩
  ·rw[aJ fun w=>z (.inr (.inr w)),aJ fun w=>z (.inl w),aJ fun w=>z (.inr (.inl w))]
  ·rcases z with rfl | rfl | rfl
   ·rw[aJ (Ne.symm Ta),aB] at y; cases y; exact SM nt.ex
   ·rw[aJ (Ne.symm TT),aJ n0,aB] at y; cases y; exact Yh nt.old
   ·rw[aB] at y; cases y; exact MF nt.tb
 have hx3:upd (upd (upd H2 T0 (Vc T0)) a (zX a cls T)) T (Bt T) a=some (zX a cls T):=by rw[aJ (Ne.symm Ta),aB]
 have hT3:upd (upd (upd H2 T0 (Vc T0)) a (zX a cls T)) T (Bt T) T=some (Bt T):=aB
 have sm:aL H1 H2->aL H1 (upd (upd (upd H2 T0 (Vc T0)) a (zX a cls T)) T (Bt T)):=fun y b o z=>by
  have g:=y b o z;rw[aJ (fun w=>by rw[w,nT] at g; cases g),aJ (fun w=>by rw[w,na] at z; cases z),aJ (fun w=>by rw[w,nT0] at z; cases z)]
  exact g
 refine⟨a,T,cls,_,rfl,I3.os,I3.bare,I3.base,I3.hok,hx3,hT3,Ta,⟨?_,?_⟩,q _ sm⟩
 ·cases z:s0.heap.get? a with
  | none=>rfl
  | some o=>
   obtain⟨o',g⟩:=(show Un (frs outer) [] H0 H1 s0.heap s1.heap from I.base).there a o z (by simp)
   rw[na'] at g; cases g
 ·cases z:s0.heap.get? T with
  | none=>rfl
  | some o=>
   obtain⟨o',g⟩:=(show Un (frs outer) [] H0 H2 s0.heap s'.heap from I2.base).there T o z (by simp)
   rw[fT] at g; cases g
def Rk(sp:Sp)(wO:List V)(E:XK)(t:TA):TE:=fun σ H Q=>t σ H fun vs H1=>sp (vs++wO) H1 Q (fun cls _ H2=>∀H3,(aL H1 H2->aL H1 H3)->E cls none H3)
theorem Vv{ae:LA}{σ:St}{H:Hp}{s:AB}{Q:VK}{us:List AA}{vs:List V}{k:Nat}{x:Str}{ps:List Str}{sp:Sp}(c:Va P w K mg base k x ps sp)(hr:fU k (A.deeper (envOfC qual scope s0.heap.objs.size f cd)))(I:Inv (iC (nZ P w) P w K mg base N qual scope f cd A outer s0 H0 E) ae σ H s)(r:Vals vs us)
  (q:sp vs H Q (fun cls _ H2=>∀H3,(aL H H2->aL H H3)->E cls none H3)):wpAny (model P w) (A.deeper (envOfC qual scope s0.heap.objs.size f cd)) (call (.ref c.f) us) (EP (iC (nZ P w) P w K mg base N qual scope f cd A outer s0 H0 E) ae σ Q) (iC (nZ P w) P w K mg base N qual scope f cd A outer s0 H0 E).xe s:=by
 have hl2:us.length=ps.length:=by rw[<- r.length]; exact c.G.len _ _ _ _ q
 have hb:=c.b s us I.mL (by rw[q_]; exact hl2)
 rw[q_] at hb;refine wpAny_call (codeAny_mono (c.G.run _ _ s H ⟨us,[]⟩ us vs _ _ hr I.env0 hb r q) fun r s' z=>?_);cases r with
 | error e'=>
  have z':nZ P w (envOfC qual scope s0.heap.objs.size f cd::outer) H s (fun cls _ H2=>∀H3,(aL H H2->aL H H3)->E cls none H3) e' s':=z;exact O5 I z' fun cls H2 y=>y
 | ok fl=>
  cases fl with
  | ret u=>
   obtain⟨v,H2,I2,rv2,q2⟩:=I.after z;exact⟨v,H2,I2,rv2,q2⟩
  | next=>exact False.elim z
  | brk=>exact False.elim z
  | cont=>exact False.elim z
theorem pfe{k:Nat}{x:Str}{p pos:Pos}{e:Expr}{es:List Expr}{ps:List Str}{sp:Sp}{t:TA}(c:Va P w K mg base k x ps sp)(hr:fU k (A.deeper (envOfC qual scope s0.heap.objs.size f cd)))(ha:PA (iC (nZ P w) P w K mg base N qual scope f cd A outer s0 H0 E) (e::es) t)
  (hg: ~~~(Gl (iC (nZ P w) P w K mg base N qual scope f cd A outer s0 H0 E) x)) (hdb:((x==("__debug__" : Str))=false)⁻¹) (h1: ~~~(b7 e=true)) (h2: ~~~(es.all b7=true)) :
  PE (iC (nZ P w) P w K mg base N qual scope f cd A outer s0 H0 E) (.Call (.Name x p) (e::es) [] pos) (Rk sp [] E t):=by
 symm;intro Q I h;refine uV (tO I hg c.m ?_ hdb);refine callWith_K (h₀:=base) I.ok.mod.Tc c.kp (cT (ha pos ae s σ H _ I h) fun us s1 ⟨vs,H1,I1,r,q⟩=>⟨I1.mL,?_⟩) (cC h1) (cL h2);dsimp only at q;rw[q_] at q;exact Vv c hr I1 r q
end
abbrev TX:=St->Hp->VK->(AA->Hp->Hp->Prop)->Prop
abbrev QB:=Ends->(AA->St->Hp->Hp->Prop)->St->Hp->Prop
def XL(X:Cx)(ae:LA)(σ:St)(EE:AA->Hp->Hp->Prop):AA->AB->Prop:=fun e s'=>∃H1 s1 E',Inv X ae σ H1 s1/\nZ X.prog X.w X.stack H1 s1 E' e s'/\∀cls H2,E' cls none H2->EE cls H1 H2
def XLs(X:Cx)(ae:LA)(EE:AA->St->Hp->Hp->Prop):AA->AB->Prop:=fun e s'=>∃σ1 H1 s1 E',Inv X ae σ1 H1 s1/\nZ X.prog X.w X.stack H1 s1 E' e s'/\∀cls H2,E' cls none H2->EE cls σ1 H1 H2
structure PX(X:Cx)(e:Expr)(t:TX):Prop where
 mk ::
 go:∀(ae:LA)(s:AB)(σ:St)(H:Hp)(Q:VK)(EE:AA->Hp->Hp->Prop),Inv X ae σ H s->t σ H Q EE->wpAny (model X.prog X.w) X.A (eval e X.env) (EP X ae σ Q) (XL X ae σ EE) s
structure PSX(X:Cx)(st:Stmt)(t:QB):Prop where
 mk ::
 go:∀(ae:LA)(s:AB)(σ:St)(H:Hp)(D:Ends)(EE:AA->St->Hp->Hp->Prop),Inv X ae σ H s->t D EE σ H->wpAny (model X.prog X.w) X.A (exec st X.env) (SP X ae D) (XLs X ae EE) s
structure adx(X:Cx)(st:List Stmt)(t:QB):Prop where
 mk ::
 go:∀(ae:LA)(s:AB)(σ:St)(H:Hp)(D:Ends)(EE:AA->St->Hp->Hp->Prop),Inv X ae σ H s->t D EE σ H->wpAny (model X.prog X.w) X.A (execs st X.env) (SP X ae D) (XLs X ae EE) s
def xPe(te:TE):TX:=fun σ H Q _=>te σ H Q
def abH(sp:Sp)(wO:List V)(ta:TA):TX:=fun σ H Q EE=>ta σ H fun vs H1=>sp (vs++wO) H1 Q (fun cls _ H2=>EE cls H1 H2)
def xIf(tc:TT)(a b:TX):TX:=fun σ H Q EE=>tc σ H fun d H1=>if d=true then a σ H1 Q EE else b σ H1 Q EE
def abE(i:Nat)(t:TX):QB:=fun D EE σ H=>t σ H (fun v H'=>D.nx (σ.set i (some v)) H') (fun cls H1 H2=>EE cls σ H1 H2)
def abF(t:TX):QB:=fun D EE σ H=>t σ H (fun _ H'=>D.nx σ H') (fun cls H1 H2=>EE cls σ H1 H2)
def aeL(tc:TT)(a b:QB):QB:=fun D EE σ H=>tc σ H fun d H1=>if d=true then a D EE σ H1 else b D EE σ H1
def xPs(t:TS):QB:=fun D _ σ H=>t D σ H
def aeI(a b:QB):QB:=fun D EE σ H=>a { D with nx:=fun σ' H'=>b D EE σ' H' } EE σ H
section
variable{X:Cx}
theorem VN{i:Nat}{x:Str}{e:Expr}{te:TX}{pos pos':Pos}(hN:X.N.Nodup)(he:PX X e te)(hi: ~~~(X.N[i]?=some x))(hx: autoParam (Loc X.env.scope x) zf._auto_1)(hs: ~~~(swapsWith e (some (.Name x pos')) pos.line X.env=pure false))(hf: autoParam (X.fn x=true\/X.env.scope.names.lookup x=some .local) zf._auto_1)(hn: autoParam (∀e s,X.xe e s->False) zi._auto_1) :
  PSX X (.Assign [.Name x pos'] e pos) (abE i te):=by
 symm;intro D EE I h;refine wpAny_Assign_Name (jW (he.go ae s σ H _ _ I h) (fun v s1 ⟨y,H1,I1,r1,q1⟩=>?_) fun e s z=>?_) hs
 ·exact iD I1 hN hi hx r1 (fun s2 I2=>⟨_,H1,I2,q1⟩) hf
 ·obtain⟨H1,s1,E',I1,c,q⟩:=z;exact⟨σ,H1,s1,E',I1,c,q⟩
theorem RZ{st:Stmt}{a:QB}(ha:PSX X st a):adx X [st] a:=by
 symm;intro D EE I h;refine wpAny_execs_cons (jW (ha.go ae s σ H _ EE I h) (fun fl s1 z=>?_) fun _ _ z=>z);cases fl with
 | next=>exact Hq z
 | ret u=>exact z
 | brk=>exact z
 | cont=>exact z
end
abbrev mC(K:Frag)(x:Str)(st:Stmt)(f:Addr):Prop:=∃(oc:AA)(od an:Option Addr)(sl:Array (Option AA))(kV dc pm cd ct:AA),nsIn K mainGlobals x=some (some (.ref f))/\K.lookup f=some ⟨oc,od,.func (fnOf x x (cJ st) (b8 st) (aK st) .none kV dc pm an cd ct),sl⟩/\codeIn K cd x=true/\keepIn K (.ref f)=true
abbrev YH(K:Frag)(x:Str)(st:Stmt)(f:Addr)(T:Addr)(i:Int):Prop:=∃(oc oT:AA)(od an dT:Option Addr)(sl sT:Array (Option AA))(kV dc pm cd ct:AA)(t:Tok)(nT:Nat),nsIn K mainGlobals x=some (some (.ref f))/\K.lookup f=some ⟨oc,od,.func (fnOf x x (cJ st) (b8 st) (aK st) (.ref T) kV dc pm an cd ct),sl⟩/\codeIn K cd x=true/\keepIn K (.ref f)=true/\K.lookup T=some ⟨oT,dT,.seq #[.int i t] nT,sT⟩
structure Has(K:Frag)(mg:Str->Option AA)(x:Str)(st:Stmt)(ps:List Str) where
 f:Addr
 fd:FuncData
 F:iT K x x st f fd
 b:Binds K fd ps []
 m:mg x=some (.ref f)
structure aaV(K:Frag)(mg:Str->Option AA)(x:Str)(st:Stmt)(ps:List Str)(i:Int) where
 f:Addr
 fd:FuncData
 T:Addr
 t:Tok
 F:Li K x x st f fd T i t
 b:Binds K fd ps []
 bd:Binds K fd ps [.int i t]
 m:mg x=some (.ref f)
section
variable{K:Frag}{h:Heap}{mg:Str->Option AA}
theorem mC.mk{x:Str}{st:Stmt}{f:Addr}{oc:AA}{od an:Option Addr}{sl:Array (Option AA)}{kV dc pm cd ct:AA}(a:nsIn K mainGlobals x=some (some (.ref f)))(l:K.lookup f=some ⟨oc,od,.func (fnOf x x (cJ st) (b8 st) (aK st) .none kV dc pm an cd ct),sl⟩)(c:codeIn K cd x=true)(k:keepIn K (.ref f)=true):mC K x st f:=⟨oc,od,an,sl,kV,dc,pm,cd,ct,a,l,c,k⟩
theorem YH.mk{x:Str}{st:Stmt}{f T:Addr}{i:Int}{oc oT:AA}{od an dT:Option Addr}{sl sT:Array (Option AA)}{kV dc pm cd ct:AA}{t:Tok}{nT:Nat}(a:nsIn K mainGlobals x=some (some (.ref f)))(l:K.lookup f=some ⟨oc,od,.func (fnOf x x (cJ st) (b8 st) (aK st) (.ref T) kV dc pm an cd ct),sl⟩)(c:codeIn K cd x=true)(k:keepIn K (.ref f)=true)(e:K.lookup T=some ⟨oT,dT,.seq #[.int i t] nT,sT⟩):YH K x st f T i:=⟨oc,oT,od,an,dT,sl,sT,kV,dc,pm,cd,ct,t,nT,a,l,c,k,e⟩
theorem mC.has{x:Str}{st:Stmt}{f:Addr}(e:mC K x st f)(X:K.In h)(G:h.Ns mainGlobals mg){ps:List Str}(H:∀(kV doc pm:AA) (an:Option Addr) (cdv ct:AA) (us:List AA),us.length=ps.length->bindArgs (fnOf x x (cJ st) (b8 st) (aK st) .none kV doc pm an cdv ct) ⟨us,[]⟩=pure (ps.zip us)):Nonempty (Has K mg x st ps):=by
 obtain⟨oc,od,an,sl,kV,dc,pm,cd,ct,a,l,c,k⟩:=e;have F:=Kq (st:=st) l c k;exact⟨⟨_,_,F,F.binds H,mg_of X G a⟩⟩
theorem YH.has{x:Str}{st:Stmt}{f T:Addr}{i:Int}(e:YH K x st f T i)(X:K.In h)(G:h.Ns mainGlobals mg){ps:List Str}
  (H:∀(t:Tok)(kV doc pm:AA)(an:Option Addr)(cdv ct:AA)(us:List AA),(us++[]).length=ps.length->∃k,bindArgs (fnOf x x (cJ st) (b8 st) (aK st) (.ref T) kV doc pm an cdv ct) ⟨us,[]⟩=seqItems? (.ref T) >>= k/\k (some #[.int i t])=pure (ps.zip (us++[])))
  (H':∀(t:Tok)(kV doc pm:AA)(an:Option Addr)(cdv ct:AA)(us:List AA),(us++[Value.int i t]).length=ps.length->∃k,bindArgs (fnOf x x (cJ st) (b8 st) (aK st) (.ref T) kV doc pm an cdv ct) ⟨us,[]⟩=seqItems? (.ref T) >>= k/\k (some #[.int i t])=pure (ps.zip (us++[.int i t]))):Nonempty (aaV K mg x st ps i):=by
 obtain⟨oc,oT,od,an,dT,sl,sT,kV,dc,pm,cd,ct,t,nT,a,l,c,k,e⟩:=e;have F:Li K x x st f _ T i t:=⟨⟨_,_,_,_,_,_,_,_,_,rfl,l,c⟩,k,⟨_,_,e,rfl⟩⟩;exact⟨⟨_,_,_,_,F,F.binds (H t),F.binds (H' t),mg_of X G a⟩⟩
def Has.ct{x:Str}{st:Stmt}{ps:List Str}{k:Nat}{sp:Sp}(h:Has K mg x st ps)(P:AC)(w:World)(base:Heap)(G:bI P w K mg base gQ k h.f h.fd ps sp):Ct P w K mg base k x ps sp:=⟨h.f,h.fd,G,h.F.kp,h.b,h.m⟩
def Has.ctE{x:Str}{st:Stmt}{ps:List Str}{k:Nat}{sp:Sp}(h:Has K mg x st ps)(P:AC)(w:World)(base:Heap)(G:bI P w K mg base (nZ P w) k h.f h.fd ps sp):Va P w K mg base k x ps sp:=⟨h.f,h.fd,G,h.F.kp,h.b,h.m⟩
def aaV.ct{x:Str}{st:Stmt}{ps:List Str}{i:Int}{k:Nat}{sp:Sp}(h:aaV K mg x st ps i)(P:AC)(w:World)(base:Heap)(G:bI P w K mg base gQ k h.f h.fd ps sp):Vb P w K mg base k x ps i sp:=⟨h.f,h.fd,h.t,G,h.F.kp,h.b,h.bd,h.m⟩
abbrev Nb(K:Frag)(x:Str):Prop:=nsIn K mainGlobals x=some none
abbrev Ni(K:Frag)(x:Str)(i:Int):Prop:=∃t,nsIn K mainGlobals x=some (some (.int i t))
abbrev F_(K:Frag)(x s:Str):Prop:=∃t,nsIn K mainGlobals x=some (some (.str s t))
theorem Ni.mk{x:Str}{i:Int}{t:Tok}(a:nsIn K mainGlobals x=some (some (.int i t))):Ni K x i:=⟨t,a⟩
theorem F_.mk{x s:Str}{t:Tok}(a:nsIn K mainGlobals x=some (some (.str s t))):F_ K x s:=⟨t,a⟩
theorem Ni.gi{x:Str}{i:Int}(e:Ni K x i)(X:K.In h)(G:h.Ns mainGlobals mg):Gi mg x i:=let ⟨t,z⟩:=e; ⟨t,mg_of X G z⟩
theorem F_.gs{x s:Str}(e:F_ K x s)(X:K.In h)(G:h.Ns mainGlobals mg):Gs mg x s:=let ⟨t,z⟩:=e; ⟨t,mg_of X G z⟩
abbrev NT(K:Frag)(x:Str)(vs:List AA):Prop:=∃(a:Addr)(n:Nat)(sl:Array (Option AA)),nsIn K mainGlobals x=some (some (.ref a))/\K.lookup a=some ⟨.type "tuple",none,.seq vs.toArray n,sl⟩
theorem NT.mk{x:Str}{vs:List AA}{a:Addr}{n:Nat}{sl:Array (Option AA)}(b:nsIn K mainGlobals x=some (some (.ref a)))(l:K.lookup a=some ⟨.type "tuple",none,.seq vs.toArray n,sl⟩):NT K x vs:=⟨a,n,sl,b,l⟩
end
def af1:V->Option Str
 | .int i=>if i.natAbs.log2<1920 then some (Str.ofString (toString i)) else none
 | .str z=>some z
 | _=>none
def tFv(te:TE):TE:=fun σ H Q=>te σ H fun x H1=>∃z,af1 x=some z/\z.length<=sizeLine/\Q (.str z) H1
abbrev TJ:=Str->St->Hp->(Str->Hp->Prop)->Prop
section
variable{X:Cx}
structure PJ(X:Cx)(es:List Expr)(t:TJ):Prop where
 mk ::
 go:∀(acc:Str)(ae:LA)(s:AB)(σ:St)(H:Hp)(R:Str->Hp->Prop),Inv X ae σ H s->t acc σ H R ->
  Joins (model X.prog X.w) X.A X.xe (evalEach es X.env) acc (fun out s'=>∃H',Inv X ae σ H' s'/\R out H') s
def tJ0:TJ:=fun acc _ H R=>R acc H
def tJ1(te:TE)(t:TJ):TJ:=fun acc σ H R=>te σ H fun x H1=>∃y,x=.str y/\(acc++y).length<=sizeLine/\t (acc++y) σ H1 R
def tJs(t:TJ):TE:=fun σ H Q=>t Str.empty σ H fun out H'=>out.length<=sizeLine/\Q (.str out) H'
def ae6:V->Option Int->Option Int->Hp->VK->Prop:=fun x lo hi H Q=>∃z,x=.str z/\z.length<=sizeLine/\Q (.str (Txt.slice z lo hi)) H
theorem RB:SlR X ae6:=by
 symm;intro x v vl vu lo hi sl Q I rx hs pl pu h;obtain⟨z,rfl,hz,q⟩:=h;obtain⟨t,rfl⟩:=rx;have key:∀t' k,EP X ae σ Q (.str (Txt.slice z lo hi) t') { s with toks:=k }:=fun t' k=>⟨.str _,H,I.tok _,⟨t',rfl⟩,q⟩
 refine⟨"str",_,PySem.F.slot_str_getitem.lookup,typeIs_str _ _ _,?_⟩;cases pl with
 | none=>
  cases pu with
  | none=>exact Mt (l:=none) (u:=none) (st:=none) hs rfl (post_val_or_str ⟨lW (Txt.slice_le z _ _) hz,key⟩)
  | int j uj=>exact Mt (l:=none) (u:=some (j,uj)) (st:=none) hs rfl (post_val_or_str ⟨lW (Txt.slice_le z _ _) hz,key⟩)
 | int i ui=>
  cases pu with
  | none=>exact Mt (l:=some (i,ui)) (u:=none) (st:=none) hs rfl (post_val_or_str ⟨lW (Txt.slice_le z _ _) hz,key⟩)
  | int j uj=>exact Mt (l:=some (i,ui)) (u:=some (j,uj)) (st:=none) hs rfl (post_val_or_str ⟨lW (Txt.slice_le z _ _) hz,key⟩)
theorem xJ:∀{zs:List Str}{us:List AA},Vals (zs.map V.str) us->StrsAre us zs
 | [],_,.nil=>.nil
 | z::zs,_,.cons ⟨t,e⟩ r=>by subst e; exact .cons z t (xJ r)
theorem Vk(sep:Str)(zs:List Str):Txt.join sep zs=Str.join sep zs:=by
 match zs with
 | []=>exact(StrLaws.glued_eq_join sep [])
 | [x]=>rfl
 | x::y::r=>exact StrLaws.glued_eq_join sep (x::y::r)
def rJoin:V->List V->Hp->VK->Prop:=fun x xs H Q=>∃(sep:Str)(p:Addr)(zs:List Str),x=.str sep/\xs=[.ref p]/\H p=some (.lst (zs.map V.str))/\(zs.map (·.length)).sum+zs.length*sep.length<=16777216/\Q (.str (Str.join sep zs)) H
theorem MK:MtR X "str.join" rJoin:=by
 intro ae s σ H x xs v us Q I rx rs h;obtain⟨sep,p,zs,rfl,rfl,hp,hz,q⟩:=h;obtain⟨t,rfl⟩:=rx;obtain⟨u,rfl,ru⟩:=rs.one;cases ru;obtain⟨_,its,n,rv,e1⟩:=(show bZ X.prog X.w H s.heap p (.lst (zs.map V.str)) from I.hok p _ hp);refine join_list (D:=p) (items:=its.toArray) ⟨_,e1,rfl,n,rfl⟩ (by simpa using xJ rv) hz fun t' k=>⟨.str _,H,I.tok _,⟨t',rfl⟩,?_⟩
 rw[Vk];exact q
def Its(z:Str):It:=⟨fun i _=>i<z.length,fun i H x H'=>H'=H/\∃c,z.cps[i]?=some c/\x=.str ⟨#[c]⟩,fun i _=>z.length<=i⟩
theorem Ra{P:AC}{w:World}{K:Frag}{tg:Expr}(z:Str)(t:Tok)(it:Addr):Turn P w K tg (Its z) [it] it (fun i h=>h.IsStrIter it "str_ascii_iterator" z t i) where
 mem:=by simp
 obj:=fun i h st b hb=>by
  have e:b=it:=by simpa using hb
  subst e;obtain⟨o,e,c,d⟩:=st;exact⟨o,e,fun v z=>by rw[d] at z; cases z⟩
 keep:=fun i h h' st k=>by
  obtain⟨o,e,c,d⟩:=st;exact⟨o,k it (by simp) o e,c,d⟩
 item:=by
  intro X hP hw hK hc i ae s σ H E I hf st hg;subst hP hw hK;have hx:z.cps[i]?=some (z.cps[i]'hg):=Mu hg;obtain⟨f0,f1,f2,f3,f4,f5⟩:=hf it (by simp)
  refine wpAny_pyNext_ascii_item st hx fun h' st' sb=>?_;have I1:Inv X ae σ H { s with heap:=h',toks:=s.toks+1 }:=I.turned (fun b o hb e=>(sb.2 b hb).trans e) f0 f1 f3 f4 f5
  obtain⟨o,e,c,d⟩:=id st';exact⟨_,rfl,Dd (s:={ s with heap:=h',toks:=s.toks+1 }) e c d ⋯ ⟨.str _,H,I1,⟨_,rfl⟩,⟨rfl,_,hx,rfl⟩,st',fun b hb=>(hf b hb).1⟩⟩
 done:=by
  intro X hP hw hK hc i ae s σ H E I hf st hg;subst hP hw hK;obtain⟨f0,f1,f2,f3,f4,f5⟩:=hf it (by simp)
  exact wpAny_pyNext_ascii_end (I.ok.hd hc) st (Array.getElem?_eq_none hg) fun h' eb=>⟨rfl,I.turned (t':=s.toks) (fun b o hb e=>eb b o hb e) f0 f1 f3 f4 f5⟩
 self:=fun _ _ _ _ _ st h=>wpAny_pyIter_striter_ascii st h
def acR(tl:TE):TI:=fun σ H R=>tl σ H fun x H1=>∃z,x=.str z/\z.cps.all (· < 128)=true/\R (Its z) H1
theorem ZK{tg l:Expr}{tl:TE}(hl:PE X l tl):PI X tg l (acR tl):=by
 symm;intro R I h;refine cT (hl ae s σ H _ I h) fun v s1 qx=>?_;obtain⟨x,H1,I1,r1,q1⟩:=qx;obtain⟨z,e,ha,q⟩:=q1;subst e;obtain⟨t,rfl⟩:=r1;refine wpAny_pyIter_ascii ha ?_;refine⟨s1.heap.objs.size,[s1.heap.objs.size],_,_,H1,rfl,I1.kept (t':=s1.toks) fun b o e=>eF _ e,Ra z t _,⟨_,dI _ rfl,rfl,rfl⟩,fun b hb=>?_,q⟩;have e:b=s1.heap.objs.size:=by simpa using hb
 subst e;exact I1.tY (bJ _) (I1.hok.fresh (bJ _))
def aeQ(K:Frag)(ta:TE):TT:=fun σ H Q=>ta σ H fun x H'=>∃k,agU K x H' k/\Q k H'
end
def tx(l:List Nat):Str:=⟨l.toArray⟩
theorem xr(l:List Nat):(tx l).cps.toList=l:=by simp[tx]
theorem gG(l:List Nat):(tx l).length=l.length:=by show l.toArray.size=_; simp
theorem abL{z:Str}{l:List Nat}(h:z.cps.toList=l):z=tx l:=by subst h; cases z; simp[tx]
theorem xu(a b:List Nat):tx a++tx b=tx (a++b):=abL (by rw[PySem.W.KT.app_list,xr,xr])
theorem Y4{a b:List Nat}(h:tx a=tx b):a=b:=by have:=m8 (fun z:Str=>z.cps.toList) h; simpa[xr] using this
theorem Y0(c:Nat):(⟨#[c]⟩:Str)=tx [c]:=rfl
def jn(sep:List Nat):List (List Nat)->List Nat
 | []=>[]
 | [x]=>x
 | x::y::r=>x++sep++jn sep (y::r)
theorem M8(sep:List Nat):∀ls:List (List Nat),Str.join (tx sep) (ls.map tx)=tx (jn sep ls)
 | []=>rfl
 | [x]=>rfl
 | x::y::r=>by
  show tx x++tx sep++Str.join (tx sep) ((y::r).map tx)=_;rw[M8 sep (y::r),xu,xu];rfl
theorem aaH{js:List Nat}{l:List Nat}{f:Nat->Bool}{tl te:TE}{σ:St}{H:Hp}{Q:VK}(hl:∀R:VK,R (.str (tx l)) H->tl σ H R)(ha:∀c∈l,c<128)(hz:l.length<=sizeLine)
  (step:∀c H',aL H H'->∀R:VK,(∀bO,aL H' bO->R (.bl (f c)) bO)->te (some (.str (tx [c]))::bR js σ) H' R)
  (fin:∀acc H',aL H H'->H' acc=some (.lst ((l.map f).map V.bl))->Q (.ref acc) H'):iw js (acR tl) te σ H Q:=by
 refine hl _ ⟨tx l,rfl,?_,fun acc hacc=>?_⟩
 ·show l.toArray.all (· < 128)=true;simpa using ha
 have len:(tx l).length=l.length:=gG l;refine⟨fun i m ys H2=>m=l.length-i/\i<=l.length/\ys=((l.take i).map f).map V.bl/\aL H H2/\H2 acc=some (.lst ys),⟨_,rfl,gU _,rfl,aP hacc _,aB⟩,?_⟩;rintro i m ys H2 ⟨rfl,hi,rfl,sm,hy⟩;by_cases hlt:i<l.length
 ·refine .inr ⟨show i<(tx l).length by omega,fun x H3 y=>?_⟩
  obtain⟨e,c,hc,ex⟩:=y;subst e ex;have hc':l[i]?=some c:=by simpa[tx] using hc
  refine step c _ sm _ fun H4 s4=>⟨s4 _ _ hy,?_,l.length-(i+1),∅,rfl,hlt,?_,?_,aB⟩
  ·rw[bW,bW,k_]; omega
  ·rw[Cm,hc']; simp
  ·refine fun b o q=>?_;have nb:b≠acc:=cB q hacc;rw[aJ nb];exact s4 _ _ (sm _ _ q)
 ·have e:i=l.length:=by omega
  subst e;refine .inl ⟨show(tx l).length<=l.length by omega,fin _ _ sm ?_⟩
  rw[hy,pH]
abbrev liH(h:Heap)(t:Addr):Heap:=h.push { cls:=.type "list_iterator",data:=.fields #[.ref t,.int 0 0] }
abbrev zB2(h:Heap)(t1 t2:Addr):Heap:=liH (liH h t1) t2
abbrev zB3(h:Heap)(t1 t2:Addr):Heap:=(zB2 h t1 t2).push { cls:=.type "tuple",data:=.seq #[.ref h.objs.size,.ref (liH h t1).objs.size] }
abbrev zB4(h:Heap)(t1 t2:Addr):Heap:=(zB3 h t1 t2).push { cls:=.type "tuple",data:=.seq #[.none,.none] }
abbrev YT(h:Heap)(t1 t2:Addr):Heap:=(zB4 h t1 t2).push { cls:=.type "zip",data:=.fields #[.none,.bool false,.bool false,.ref (zB2 h t1 t2).objs.size,.ref (zB3 h t1 t2).objs.size] }
theorem Ww(t1 t2:Addr)(xs ys:Array AA):Meets (Builtin.«zip.__new__» ⟨[.type "zip",.ref t1,.ref t2],[]⟩) (fun _ R s=>s.heap.IsList t1 xs/\s.heap.IsList t2 ys/\R (.ok (.ret (.ref (zB4 s.heap t1 t2).objs.size))) { s with heap:=YT s.heap t1 t2 }):=
 .of_wp fun prog w A R s z=>by
  obtain⟨hp,g,d,tk,os⟩:=s;obtain⟨hx,hy,z⟩:=z;have sub:=sub_zip;have hX:Heap.IsList (Shared.heap ⟨hp,g,d,tk,os⟩) t1 xs:=hx;have hY:Heap.IsList (Shared.heap ⟨liH hp t1,g,d,tk,os⟩) t2 ys:=hy.push _
  wp_walk using Ec hX,Ec hY
  exact⟨_,rfl,z⟩
theorem Dn{prog:AC}{w:World}{A:Around}{E:AA->AB->Prop}{s:AB}{t1 t2:Addr}{xs ys:Array AA}{Q:AA->AB->Prop}(hx:s.heap.IsList t1 xs)(hy:s.heap.IsList t2 ys)
  (q:∀h',IsZip h' (s.heap.objs.size+4) (s.heap.objs.size+2) (s.heap.objs.size+3) .none->IsPair h' (s.heap.objs.size+2) (.ref s.heap.objs.size) (.ref (s.heap.objs.size+1))->IsPair h' (s.heap.objs.size+3) .none .none ->
   h'.IsListIter s.heap.objs.size t1 0->h'.IsListIter (s.heap.objs.size+1) t2 0->(∀c o,s.heap.get? c=some o->h'.get? c=some o)->Q (.ref (s.heap.objs.size+4)) { s with heap:=h' }) :
  wpAny (model prog w) A (call (.type "zip") [.ref t1,.ref t2]) Q E s:=by
 have n1:(liH s.heap t1).objs.size=s.heap.objs.size+1:=iW ..;have n2:(zB2 s.heap t1 t2).objs.size=s.heap.objs.size+2:=by rw[iW,n1]
 have n3:(zB3 s.heap t1 t2).objs.size=s.heap.objs.size+3:=by rw[iW,n2]
 have n4:(zB4 s.heap t1 t2).objs.size=s.heap.objs.size+4:=by rw[iW,n3]
 have up:∀c o,s.heap.get? c=some o->(YT s.heap t1 t2).get? c=some o:=fun c o e=>eF _ (eF _ (eF _ (eF _ (eF _ e))));have v5:(YT s.heap t1 t2).get? (zB4 s.heap t1 t2).objs.size=some _:=dI _ rfl;have v4:(YT s.heap t1 t2).get? (zB3 s.heap t1 t2).objs.size=some _:=eF _ (dI _ rfl);have v3:(YT s.heap t1 t2).get? (zB2 s.heap t1 t2).objs.size=some _:=eF _ (eF _ (dI _ rfl));have v2:(YT s.heap t1 t2).get? (liH s.heap t1).objs.size=some _:=eF _ (eF _ (eF _ (dI _ rfl)));have v1:(YT s.heap t1 t2).get? s.heap.objs.size=some _:=eF _ (eF _ (eF _ (eF _ (dI _ rfl))));refine callType_new F.called_zip ⋯ (F.typeCall_zip_2 _ _) (F.newCall_zip_2 _ _) (fun x=>F.args_object_init_3 x _ _) F.entry_zip_new (Ww t1 t2 xs ys) ⟨hx,hy,?_⟩
 show _/\_;rw[n2,n3,n4] at v5;rw[n1,n2] at v3;rw[n3] at v4;rw[n1] at v2;rw[n4];exact⟨⟨_,v5,rfl⟩,q _ v5 v3 v4 ⟨_,v1,rfl,rfl⟩ ⟨_,v2,rfl,rfl⟩ up⟩
theorem Zd{X:Cx}{ae:LA}{σ:St}{H:Hp}{s:AB}{a b:Addr}{xs:List V}(I:Inv X ae σ H s)(hq:cG X.K H a xs)(hf:gB X ae H b):a≠b:=fun z=>by
 rcases hq with h | ⟨o,its,n,hk,_⟩
 ·rcases h with h | ⟨o,h⟩ <;> (rw[z,hf.1] at h; cases h)
 ·have e:X.base.get? a=some o:=I.ok.mod.Tc a o hk;rcases hf.2.2.2.1 with y | y
  ·exact I.ok.HW a o e (z▸y)
  ·have l:=bV e;have m:=I.ok.Qw;rw[z] at l;exact absurd (pI l (lW m y)) (uT _)
def kL:Knd:=⟨fun K=>cG K,fun h i a n=>h.IsListIter i a n,fun h a us=>h.IsList a us,fun⟨o,g,_,d⟩=>⟨o,g,fun v q=>by rw[d] at q; cases q⟩,fun g k=>g.at k,fun I h=>(I.list h).elim fun us p=>⟨us,p.1,p.2.1.isList⟩,fun I h h'=>I.y_ h h',fun I h f=>Zd I h f,fun hh i a n us=>Draws.list hh i a n us⟩
abbrev adF:=aaU kL kL
section
variable{X:Cx}
def Tn(K:Frag)(ta:TA):TI:=fun σ H R=>ta σ H fun vs H1=>∃a b,vs=[.ref a,.ref b]/\(∃xs,cG K H1 a xs)/\(∃ys,cG K H1 b ys)/\R (adF K a b) H1
theorem V8{K:Frag}{e e':Expr}{elts:List Expr}{x1}{tp p pos:Pos}{ta:TA}(hK:X.K=K)(hm:X.mg "zip" = none)(ha:PA X [e,e'] ta)(hg: ~~~(Gl X "zip"))(h1: ~~~(b7 e=true))(h2: ~~~(b7 e'=true)) :
  PI X (.Tuple elts x1 tp) (.Call (.Name "zip" p) [e,e'] [] pos) (Tn K ta):=by
 subst hK;symm;intro R I h;refine uV (jy I hg hm K_ ?_ ⋯ ⋯)
 refine PyProof.Rows.callWith_type1 (cT (ha pos ae s σ H _ I h) fun us s1 ⟨vs,H1,I1,r1,q1⟩=>?_) (cC h1) (cL (es:=[e']) (by simp[h2]))
 obtain⟨a,b,rfl,⟨xs,hx⟩,⟨ys,hy⟩,q⟩:=q1;obtain⟨u,v,rfl,ru,rv⟩:=r1.two;cases ru;cases rv;obtain⟨us,_,pu,_⟩:=I1.list hx;obtain⟨ws,_,pw,_⟩:=I1.list hy;refine Dn pu.isList pw.isList fun h' hz hp ho h1 h2 kk=>?_;have I2:Inv X ae σ H1 { s1 with heap:=h' }:=I1.kept (t':=s1.toks) kk
 have fr:∀n,H1 (s1.heap.objs.size+n)=none:=fun n=>I1.hok.fresh (Oz _ _);have fk:∀n,gB X ae H1 (s1.heap.objs.size+n):=fun n=>I1.tY (Oz _ _) (fr n);have ne:∀i j:Nat,i≠j->s1.heap.objs.size+i≠s1.heap.objs.size+j:=fun i j n e=>n (Nat.add_left_cancel e);refine Ml hz ⟨s1.heap.objs.size+4,_,_,adF X.K a b,H1,rfl,I2,BJ kL kL a b (s1.heap.objs.size+4) (s1.heap.objs.size+2) (s1.heap.objs.size+3) s1.heap.objs.size (s1.heap.objs.size+1) (ne _ _ ⋯) (ne _ _ ⋯) (ne _ _ ⋯) (ne 0 _ ⋯) (ne _ _ ⋯) (ne _ 0 ⋯) (ne _ _ ⋯) (ne 0 _ ⋯) (ne _ 0 ⋯) (ne _ _ ⋯),⟨hz,hp,⟨_,_,ho⟩,h1,h2⟩,fun c hc=>?_,q⟩
 simp only[bN,e_,or_false] at hc;rcases hc with rfl | rfl | rfl | rfl | rfl
 ·exact fk 4
 ·exact fk 2
 ·exact fk 3
 ·exact fk 0
 ·exact fk 1
end
theorem Ql{K:Frag}{js:List Nat}{a b:Addr}{xs ys:List V}{es:List PyData}{ta:TA}{te:TE}{σ:St}{H:Hp}{Q:VK}(hl:∀R:List V->Hp->Prop,R [.ref a,.ref b] H->ta σ H R)(ha:H a=some (.lst xs))(hb:H b=some (.lst ys))(n1:xs.length=es.length)(n2:ys.length=es.length)(hz:es.length<=sizeLine)(hL:bH es=true)
  (val:∀(i:Nat) x y e H',xs[i]?=some x->ys[i]?=some y->es[i]?=some e->aL H H'->∀R:VK,(∀v bO,aL H' bO->At bO e v->R v bO)->te (some x::some y::bR js σ) H' R)
  (fin:∀acc zs H',aL H H'->H acc=none->H' acc=some (.lst zs)->aj (hid acc H') es zs->Q (.ref acc) H'):fP 2 js (Tn K ta) (Kp K 2 (jA (eO 0) (jA (eO 1) Bc))) wj te σ H Q:=by
 refine hl _ ⟨a,b,rfl,⟨xs,cG.of ha⟩,⟨ys,cG.of hb⟩,fun acc hacc=>?_⟩;have gx:∀i,i<es.length->xs[i]?=some (xs.getD i .non):=fun i hi=>by rw[iV,dC ∅]; rfl
 have gy:∀i,i<es.length->ys[i]?=some (ys.getD i .non):=fun i hi=>by rw[iV,dC ∅]; rfl
 refine rR (es:=es) (fun i=>xs.getD i .non) (fun i=>ys.getD i .non) hz hL hacc (fun i H' hi s=>⟨xs,ys,_,_,cG.of (s _ _ ha),cG.of (s _ _ hb),gx i hi,gy i hi⟩) (fun i H' v bO hi s y=>?_) (fun H' s=>⟨xs,ys,cG.of (s _ _ ha),cG.of (s _ _ hb),.inl n1.symm⟩) (fun i e H' he s R hR=>?_) fun zs H' s h1 h2=>fin acc zs H' s hacc h1 h2
 ·obtain⟨p,x,y,fp,e1,e2,h1,h2⟩:=y;have q1:=h1 xs (cG.of (s _ _ ha));have q2:=h2 ys (cG.of (s _ _ hb));rw[gx i hi] at q1;rw[gy i hi] at q2;cases q1;cases q2;exact⟨p,fp,e1,e2⟩
 ·have hi:i<es.length:=by
   by_cases z:i<es.length
   ·exact z
   ·rw[List.getElem?_eq_none ∅] at he; cases he
  exact val i _ _ e H' (gx i hi) (gy i hi) he s R hR
theorem Uq:bootBuiltins "set" = some (.type "set"):=by decide +kernel
section
variable{X:Cx}{ae:LA}{σ:St}{H1:Hp}{s1 s':AB}
theorem Qm{e:AA}{E:XK}{D:Ends}{hx:Str}{CH:Addr}{hp pos:Pos}{b0:Stmt}{body:List Stmt}{ts:TS}(I:Inv X ae σ H1 s1)(c:nZ X.prog X.w X.stack H1 s1 E e s')
  (hE:∀cls H2,E cls none H2->exmOne X.K cls (.ref CH)=some true/\∀a H3,(aL H1 H2->aL H1 H3)->adG H3 a cls->ts D σ H3)
  (hg:Gl X hx) (hm:X.mg hx=some (.ref CH)) (hs:∀e,Dw (X.in' e) (b0::body) ts) (hn:∀e s,X.xe e s->False) (st:X.stack=X.env::X.outer) (fL:X.env.frame=some X.env.locals) (hd:(hx==("__debug__" : Str))=false) :
  wpAny (model X.prog X.w) X.A (noteFrame e X.env) (fun _ s2=>wpAny (model X.prog X.w) X.A (setFlight e none) (fun _ s3=>wpAny (model X.prog X.w) X.A (handleBy e X.env [.ExceptHandler (some (.Name hx hp)) none (b0::body) pos]) (SP X ae D) X.xe s3) X.xe s2) X.xe s':=by
 obtain⟨a,T0,cls,H2,rfl,os,bare,un,hok,ha,hT0,n0,⟨na',Z_⟩,q⟩:=c;have na:H1 a=none:=I.hok.none na';have nT0:H1 T0=none:=I.hok.none Z_;obtain⟨ex,q⟩:=hE cls H2 q;have I2:Inv X ae σ H2 s':=I.call' (ch:=[]) os un hok bare fun b z=>nomatch z
 have ff:s'.heap.FunFrames X.base (X.env::X.outer):=by rw[<- st]; exact I2.stack
 have fr:X.A.frames=some (X.env::X.outer):=by rw[<- st]; exact I2.ok.frames
 refine noteE2 fr ff fL (zX.at (hok a _ ha)) (Bt.at (hok T0 _ hT0)) n0 fun h3 T nt=>?_
 have fT:s'.heap.get? T=none:=by
  cases z:s'.heap.get? T with
  | none=>rfl
  | some o=>exact absurd (bV z) (Nat.not_lt.mpr nt.fresh)
 have nT:H2 T=none:=hok.none fT;have Ta:T≠a:=fun z=>by rw[z,ha] at nT; cases nT
 have TT:T≠T0:=fun z=>by rw[z,hT0] at nT; cases nT
 have I3:Inv X ae σ (upd (upd (upd H2 T0 (Vc T0)) a (zX a cls T)) T (Bt T)) { s' with heap:=h3 }:=by
  refine I2.ext (fun b=>b=a\/b=T0\/b=T) (fun b o z y x=>nt.keep b o (fun w=>z (.inl w)) (fun w=>z (.inr (.inl w))) (by rw[<- st]; exact y) x) (fun b o z x=>nt.slot b o (fun w=>z (.inl w)) (fun w=>z (.inr (.inl w))) x) (fun b o z x=>?_) (fun b z=>?_) (fun b z=>?_) (fun b u z y=>?_)
  ·rcases z with rfl | rfl | rfl
   ·obtain⟨oe,vs,e1,_⟩:=nt.ex; exact⟨_,e1⟩
   ·exact nt.old
   ·rw[fT] at x; cases x
  ·rcases z with rfl | rfl | rfl
   ·exact .inr ⟨_,ha⟩
   ·exact .inr ⟨_,hT0⟩
   ·exact .inl ⟨nT,fT⟩
  ·rw[aJ fun w=>z (.inr (.inr w)),aJ fun w=>z (.inl w),aJ fun w=>z (.inr (.inl w))]
  ·rcases z with rfl | rfl | rfl
   ·rw[aJ (Ne.symm Ta),aB] at y; cases y; exact SM nt.ex
   ·rw[aJ (Ne.symm TT),aJ n0,aB] at y; cases y; exact Yh nt.old
   ·rw[aB] at y; cases y; exact MF nt.tb
 have hx3:upd (upd (upd H2 T0 (Vc T0)) a (zX a cls T)) T (Bt T) a=some (zX a cls T):=by rw[aJ (Ne.symm Ta),aB]
 have hT3:upd (upd (upd H2 T0 (Vc T0)) a (zX a cls T)) T (Bt T) T=some (Bt T):=aB
 have sm:aL H1 H2->aL H1 (upd (upd (upd H2 T0 (Vc T0)) a (zX a cls T)) T (Bt T)):=fun y b o z=>by
  have g:=y b o z;rw[aJ (fun w=>by rw[w,nT] at g; cases g),aJ (fun w=>by rw[w,na] at z; cases z),aJ (fun w=>by rw[w,nT0] at z; cases z)]
  exact g
 have q3:=q a _ sm ⟨T,hx3⟩;generalize upd (upd (upd H2 T0 (Vc T0)) a (zX a cls T)) T (Bt T)=H3 at I3 hx3 hT3 q3;generalize ({ s' with heap:=h3 }:AB)=s3 at I3
 refine wpAny_handleBy_cons (codeAny_handlers_test ?_) (by intro z; cases z)
 refine Calls.Name_function_global I3.ok.kind hg (Calls.loadGlobal_global (by rw[I3.ok.glob]; exact I3.mod.glob.keeps I3.bk) hm ?_) hd
 obtain⟨oe,vs,e1,⟨ec,_⟩,ed,ev⟩:=zX.at (I3.hok a _ hx3);have LT:PySem.W.Looks (model X.prog X.w) s3.heap (typeOf (.ref a)) cls:=ec▸(PySem.W.Looks.ld e1).andThen .now;refine(PySem.W.exm_one I3.mL LT ex).here ?_;refine codeAny_handlers_suite (Qd I3 hx3 hT3 fun s4 I4=>?_);refine jW (hs (.ref a) ae s4 _ _ _ (I4.inE (.ref a)) q3) (fun fl s6 z=>?_) fun e6 s6 z=>(hn _ _ z).elim;cases fl with
 | next=>
  obtain⟨σ6,H6,I6,q6⟩:=z;exact⟨σ6,H6,I6.Wj I4.ok,q6⟩
 | ret u=>
  obtain⟨v,σ6,H6,I6,rv,q6⟩:=z;exact⟨v,σ6,H6,I6.Wj I4.ok,rv,q6⟩
 | brk=>
  obtain⟨σ6,H6,I6,q6⟩:=z;exact⟨σ6,H6,I6.Wj I4.ok,q6⟩
 | cont=>
  obtain⟨σ6,H6,I6,q6⟩:=z;exact⟨σ6,H6,I6.Wj I4.ok,q6⟩
def Lr(ok:AA->Prop)(tb:QB)(ts:TS):TS:=fun D σ H=>tb D (fun cls σ1 H1 H2=>ok cls/\∀a H3,(aL H1 H2->aL H1 H3)->adG H3 a cls->ts D σ1 H3) σ H
theorem VP{K:Frag}{hx:Str}{CH:Addr}{hp pos tp:Pos}{body:List Stmt}{b0:Stmt}{suite:List Stmt}{tb:QB}{ts:TS}(hK:X.K=K)
  (hb:adx X body tb) (hs:∀e,Dw (X.in' e) (b0::suite) ts) (hm:X.mg hx=some (.ref CH)) (hgx: ~~~(Gl X hx))
  (hn: autoParam (∀e s,X.xe e s->False) zi._auto_1) (st: ~~~(X.stack=X.env::X.outer)) (fL: ~~~(X.env.frame=some X.env.locals)) (hd:((hx==("__debug__" : Str))=false)⁻¹) :
  PS X (.Try body [.ExceptHandler (some (.Name hx hp)) none (b0::suite) pos] [] [] tp) (Lr (fun cls=>exmOne K cls (.ref CH)=some true) tb ts):=by
 subst hK;symm;intro D I h;refine wpAny_Try_except (jW (hb.go ae s σ H D _ I h) (fun fl s1 z=>?_) fun e s' z=>?_)
 ·cases fl with
  | next=>exact Hq z
  | ret u=>exact z
  | brk=>exact z
  | cont=>exact z
 ·obtain⟨σ1,H1,s1,E',I1,c,q⟩:=z;exact Qm I1 c q hgx hm hs hn st fL hd
end
section
variable{P:AC}{w:World}{K:Frag}{mg:Str->Option AA}{base:Heap}
structure CtF(P:AC)(w:World)(K:Frag)(mg:Str->Option AA)(base:Heap)(k:Nat)(x:Str)(ps:List Str)(i:Int)(sp:Sp) where
 f:Addr
 fd:FuncData
 t:Tok
 G:bI P w K mg base (nZ P w) k f fd ps sp
 kp:keepIn K (.ref f)=true
 b:Binds K fd ps []
 bd:Binds K fd ps [.int i t]
 m:mg x=some (.ref f)
end
section
variable{X:Cx}
end
section
variable{X:Cx}
def acj:List V->Hp->VK->Prop:=fun vs H Q=>∃j:Int,vs=[.int j]/\-(2 ^ 62)<=j/\j<2 ^ 62/\∀p H',H p=none->aL H H'->H' p=some (.rng 0 j)->Q (.ref p) H'
def acn:List V->Hp->VK->Prop:=fun vs H Q=>∃(p:Addr)(j:Int),vs=[.ref p]/\H p=some (.rng 0 j)/\-(2 ^ 62)<=j/\j<2 ^ 62/\j.toNat<=1000/\∀l H',H l=none->aL H H'->H' l=some (.lst ((List.range j.toNat).map fun i:Nat=>V.int i))->Q (.ref l) H'
end
def iOr(a b:TI):TI:=fun σ H R=>a σ H R\/b σ H R
theorem PI.or{X:Cx}{tg it:Expr}{a b:TI}(h:PI X tg it a)(h':PI X tg it b):PI X tg it (iOr a b):=.mk fun ae s σ H R I q=>q.elim (h ae s σ H R I) (h' ae s σ H R I)
theorem BV{nt:Nat}{js:List Nat}{a b:TI}{g:TG}{tc:TT}{te:TE}{σ:St}{H:Hp}{Q:VK}:fP nt js (iOr a b) g tc te σ H Q=(fP nt js a g tc te σ H Q\/fP nt js b g tc te σ H Q):=rfl
theorem V9{X:Cx}{K:Frag}{e e':Expr}{elts:List Expr}{x1}{tp p pos:Pos}{ta:TA}(hK:X.K=K)(hm:X.mg "zip" = none)(ha:PA X [e,e'] ta)(hg: ~~~(Gl X "zip"))(h1: ~~~(b7 e=true))(h2: ~~~(b7 e'=true)) :
  PI X (.Tuple elts x1 tp) (.Call (.Name "zip" p) [e,e'] [] pos) (iOr (Tj K ta) (Tn K ta)):=.or (V7 hK hm ha hg h1 h2) (V8 hK hm ha hg h1 h2)
section
variable{X:Cx}
theorem Q4{xs:List V}:∀{us:List AA},Vals xs us->∀{j:Nat}{x:V},xs[j]?=some x->∃u,us[j]?=some u/\RelV x u:=by
 induction xs with
 | nil=>intro us _ j x h; simp at h
 | cons y ys ih=>
  intro us r j x h;cases r with
  | cons r1 r2=>
   cases j with
   | zero=>simp at h; subst h; exact⟨_,rfl,r1⟩
   | succ j=>simp at h; obtain⟨u,h1,h2⟩:=ih r2 h; exact⟨u,by simpa using h1,h2⟩
end
theorem Xe{K:Frag}{js:List Nat}{a:Addr}{xs:List V}{tl te:TE}{σ:St}{H:Hp}{Q:VK}(hl:∀R:VK,R (.ref a) H->tl σ H R)(ha:H a=some (.lst xs))(hz:xs.length<=sizeLine)
  (h:∀acc,H acc=none->∃Pv:Nat->List V->Hp->Prop,Pv 0 [] (upd H acc (.lst []))/\(∀i ys H',i<=xs.length->Pv i ys H'->ys.length=i/\H' a=some (.lst xs)/\H' acc=some (.lst ys)) /\
   (∀i x ys H',xs[i]?=some x->Pv i ys H'->∀R:VK,(∀y bO,bO acc=some (.lst ys)->Pv (i+1) (ys++[y]) (upd bO acc (.lst (ys++[y])))->R y bO)->te (some x::bR js σ) H' R) /\
   ∀ys H',Pv xs.length ys H'->Q (.ref acc) H'):iw js (lE K tl) te σ H Q:=by
 refine hl _ ⟨a,rfl,⟨xs,cG.of ha⟩,fun acc hacc=>?_⟩;obtain⟨Pv,p0,keep,step,fin⟩:=h acc hacc;refine⟨fun i m ys H2=>m=xs.length-i/\i<=xs.length/\Pv i ys H2,⟨_,rfl,gU _,p0⟩,?_⟩;rintro i m ys H2 ⟨rfl,hi,p⟩;obtain⟨ly,ka,kc⟩:=keep i ys H2 hi p;by_cases hlt:i<xs.length
 ·refine .inr ⟨⟨xs,xs[i],cG.of ka,dC hlt⟩,fun x H3 y=>?_⟩;obtain⟨e,y⟩:=y;subst e;exact step i x ys H3 (y xs (cG.of ka)) p _ fun y' H4 e4 p4=>⟨e4,∅,xs.length-(i+1),∅,rfl,hlt,p4⟩
 ·have e:i=xs.length:=by omega
  subst e;exact .inl ⟨⟨xs,cG.of ka,bJ _⟩,fin _ _ p⟩
theorem LCK.inv{K:Frag}{js:List Nat}{a:Addr}{xs:List V}{te:TE}{σ:St}{H:Hp}{Q:VK}(ha:H a=some (.lst xs))(hz:xs.length<=sizeLine)
  (h:∀acc,H acc=none->∃Pv:Nat->List V->Hp->Prop,Pv 0 [] (upd H acc (.lst []))/\(∀i ys H',i<=xs.length->Pv i ys H'->ys.length=i/\H' a=some (.lst xs)/\H' acc=some (.lst ys)) /\
   (∀i x ys H',xs[i]?=some x->Pv i ys H'->∀R:VK,(∀y bO,bO acc=some (.lst ys)->Pv (i+1) (ys++[y]) (upd bO acc (.lst (ys++[y])))->R y bO)->te (some x::bR js σ) H' R) /\
   ∀ys H',Pv xs.length ys H'->Q (.ref acc) H'):LCK K js te σ Q (.ref a) H:=Xe (fun R h=>h) ha hz h
end _L
namespace _L
open PySem
structure Pl(n:Nat)(d:PyData):Prop where
 hd:d.hasDict=false
 cl:d.canLay0=true
 dp:d.depth<=n
end _L
namespace _L
open PySem PySem.Spec PyProof.Rows
noncomputable instance aep:DecidableEq PyData:=fun a b=>Classical.propDecidable (a=b)
mutual
def ndK:PyData->Bool
 | .int _=>true
 | .tuple ds=>acH ds
 | _=>false
def acH:List PyData->Bool
 | []=>true
 | d::ds=>ndK d&&acH ds
end
mutual
def TF:PyData->Int
 | .int i=>hashInt i
 | .tuple ds=>reduceHash (Builtin.Tuple.tupleHashOf (Tz ds))
 | _=>0
def Tz:List PyData->List Int
 | []=>[]
 | d::ds=>TF d::Tz ds
end
structure adC(d:PyData):Prop where
 t:∃ds,d=.tuple ds
 k:ndK d=true
 dp:d.depth<=8
section
variable{X:Cx}{ae:LA}{σ:St}{H:Hp}{s:AB}{a:Addr}{kvs:List (PyData×V)}
def adD(H:Hp)(d:PyData)(y:V):Prop:=adC d/\At H d y
end
section
variable{X:Cx}
end
section
variable{X:Cx}
end
section
variable{X:Cx}
theorem xN(hu:X.A.units+64<cLine):QG X (fun o i v H Q=>∃a H',o=.ref a/\uw H a i v H'/\Q H'):=by
 symm;intro o i v ov iv u Q I ro ri rv h;obtain⟨a,H',rfl,g,q⟩:=h;cases ro;exact Dk ∅ I g ri rv fun s' I'=>⟨H',I',q⟩
theorem qJ(hu:X.A.units+64<cLine):QR X (fun x y H Q=>∃a v,x=.ref a/\jL H a y (some v)/\Q v H):=by
 refine .mk ?_;intro value slice ae s σ H x y v u Q I rx ry h hs;obtain⟨a,v',rfl,g,q⟩:=h;cases rx;have hT:=Il I g;unfold subscriptTail;refine bh ?_;rw[getitemInPython_of_ne hT.not_modules];refine bh (wpAny_specialOf hT PySem.F.slot_dict_getitem.lookup ?_)
 have fin:wpAny (model X.prog X.w) X.A (subscripted slice false (.ref a) u) (fun r s₃=>wpAny (model X.prog X.w) X.A (letTemporaryGo value (.ref a) r >>= fun _=>pure r) (EP X ae σ Q) X.xe s₃) X.xe s:=by
  rw[hs];exact wpAny_operating (Dl ∅ I g ry fun w' s' I' D_=>bh (wpAny_letTemporaryGo (cH ⟨v',H,I',D_,q⟩)))
 first
  | exact cH (bh fin)
  | exact bh (cH (bh fin))
  | exact bh fin
end
section
variable{X:Cx}
end
section
variable{X:Cx}
def acp:V->List V->Hp->VK->Prop:=fun x vs H Q=>∃(l:Addr)(ns:List V)(j:Int)(i:Nat)(n:V),x=.ref l/\vs=[.int j,n]/\j=(i:Int)/\H l=some (.lst ns)/\i<=ns.length/\ns.length<1000/\Q .non (upd H l (.lst (ns.take i++n::ns.drop i)))
theorem J_:MtM X "list.insert" acp:=by
 intro ae s σ H x vs v us Q I rx rv h;obtain⟨l,ns,ij,i,n,rfl,rfl,hij,hH,hi,hn,q⟩:=h;cases rx;obtain⟨u,u2,rfl,⟨t,rfl⟩,ru⟩:=rv.two;obtain⟨z,its,k,r,hl,e⟩:=I.S6 hH;have hlen:=r.length;have hs:1000<sizeLine:=a_ (bJ _);have ss:its.toArray.size<=sizeLine:=by rw[gb]; omega
 have fi:¬(!Builtin.List.listFitsIndex ij)=true:=T9 ∅ ∅
 have mm:=AutoListH.list_insert_list_int_val_1 l its.toArray k ij t u2 fi ss;have aa:argsOk "list.insert" ⟨[Value.ref l,Value.int ij t,u2],[]⟩:=Uu _ _ _;refine call_meets PySem.F.slot_list_insert ⟨_,e,rfl⟩ PySem.F.entry_list_insert aa mm ⟨e,?_⟩
 ·have rt:∀{xs:List V}{ys:List AA}(j:Nat),Vals xs ys->Vals (xs.take j) (ys.take j):=fun {xs ys} j q=>by
   induction j generalizing xs ys with
   | zero=>exact(.nil:Vals [] [])
   | succ j ih=>
    cases q with
    | nil=>exact(.nil:Vals [] [])
    | cons a b=>exact .cons a (ih b)
  have rd:∀{xs:List V}{ys:List AA}(j:Nat),Vals xs ys->Vals (xs.drop j) (ys.drop j):=fun {xs ys} j q=>by
   induction j generalizing xs ys with
   | zero=>simpa using q
   | succ j ih=>
    cases q with
    | nil=>exact(.nil:Vals [] [])
    | cons a b=>exact ih b
  refine⟨.non,_,I.acN (its':=its.take i++(u2::its.drop i)) hH e ?_ ((rt i r).append (.cons ru (rd i r))) ?_,rfl,q⟩
  ·have ek:(if ij<0 then(ij+((its.toArray.size:Nat):Int)).toNat else min ij.toNat its.toArray.size)=i:=by
    rw[aQ ∅,hij,rB,gb]; omega
   show(its.toArray.extract 0 (if ij<0 then(ij+((its.toArray.size:Nat):Int)).toNat else min ij.toNat its.toArray.size)).push u2++its.toArray.extract (if ij<0 then(ij+((its.toArray.size:Nat):Int)).toNat else min ij.toNat its.toArray.size)=_
   rw[ek]
   apply Array.ext'
   simp[List.take_take];exact RQ (by rw[wz]; exact bJ _)
  ·simp;omega
end
section
variable{X:Cx}
end
def xB(r:List V->Hp->VK->Prop)(t:TX):TX:=fun σ H Q EE=>t σ H (fun v H1=>r [v] H1 Q) EE
section
variable{X:Cx}
end
abbrev TAX:=St->Hp->(List V->Hp->Prop)->(AA->Hp->Hp->Prop)->Prop
structure PXA(X:Cx)(es:List Expr)(t:TAX):Prop where
 mk ::
 go:∀(pos:Pos)(ae:LA)(s:AB)(σ:St)(H:Hp)(Q:List V->Hp->Prop)(EE:AA->Hp->Hp->Prop),Inv X ae σ H s->t σ H Q EE->wpAny (model X.prog X.w) X.A (spliced (backTo pos (starEach es X.env))) (AP X ae σ Q) (XL X ae σ EE) s
def aeJ:TAX:=fun _ H Q _=>Q [] H
def abG(t:TX)(u:TAX):TAX:=fun σ H Q EE=>t σ H (fun v H1=>u σ H1 (fun vs H2=>Q (v::vs) H2) EE) EE
def aeK(t:TAX):TX:=fun σ H Q EE=>t σ H (fun xs H1=>xs.length<=sizeLine/\∀p H',H1 p=none->aL H1 H'->H' p=some (.lst xs)->Q (.ref p) H') EE
def aeH(t:TAX):TX:=fun σ H Q EE=>t σ H (fun xs H1=>xs.length<=sizeLine/\∀p H',H1 p=none->aL H1 H'->H' p=some (.tup xs)->Q (.ref p) H') EE
section
variable{X:Cx}
end
theorem Uh{K:Frag}{nt:Nat}{g:TG}{js:List Nat}{a:Addr}{xs:List V}{tl te:TE}{σ:St}{H:Hp}{Q:VK}(τ:Nat->St)(hτ:∀i,(τ i).length=nt)(hl:∀R:VK,R (.ref a) H->tl σ H R)(ha:H a=some (.lst xs))
  (h:∀acc,H acc=none->∃Pv:Nat->List V->Hp->Prop,Pv 0 [] (upd H acc (.lst []))/\(∀i ys H',Pv i ys H'->H' a=some (.lst xs)) /\
   (∀i x ys H',xs[i]?=some x->Pv i ys H'->(∀R:St->Hp->Prop,R (τ i++bR js σ) H'->g x (List.replicate nt none++bR js σ) H' R)/\te (τ i++bR js σ) H' fun y H4=>H4 acc=some (.lst ys)/\ys.length<sizeLine/\Pv (i+1) (ys++[y]) (upd H4 acc (.lst (ys++[y]))))/\∀ys H',Pv xs.length ys H'->Q (.ref acc) H'):fP nt js (lE K tl) g wj te σ H Q:=by
 refine hl _ ⟨a,rfl,⟨xs,cG.of ha⟩,fun acc hacc=>?_⟩;obtain⟨Pv,p0,pA,ps,pf⟩:=h acc hacc;refine⟨fun i m ys H2=>m=xs.length-i/\i<=xs.length/\Pv i ys H2,⟨_,rfl,gU _,p0⟩,?_⟩;rintro i m ys H2 ⟨rfl,hi,hP⟩;have ht:cG K H2 a xs:=cG.of (pA _ _ _ hP);by_cases hlt:i<xs.length
 ·refine .inr ⟨⟨xs,xs[i],ht,dC hlt⟩,fun x H3 y=>?_⟩;obtain⟨e1,y⟩:=y;subst e1;obtain⟨gg,tt⟩:=ps i x ys _ (y xs ht) hP;refine gg _ ⟨⟨?_,?_⟩,?_⟩
  ·rw[List.drop_append_of_le_length (by rw[hτ]; exact bJ _),<- hτ i,GQ,Hm]
  ·rw[dg,dg,hτ,uW]
  unfold wj;simp only[if_true]
  have e:(fun(y:V)(H4:Hp)=>H4 acc=some (.lst ys)/\ys.length<sizeLine/\Pv (i+1) (ys++[y]) (upd H4 acc (.lst (ys++[y]))))=fun y H4=>H4 acc=some (.lst ys)/\ys.length<sizeLine/\∃m',m'<xs.length-i/\(m'=xs.length-(i+1)/\i+1<=xs.length/\Pv (i+1) (ys++[y]) (upd H4 acc (.lst (ys++[y])))):=
   funext fun y=>funext fun H4=>propext ⟨fun⟨z1,z2,z3⟩=>⟨z1,z2,xs.length-(i+1),∅,rfl,hlt,z3⟩,fun⟨z1,z2,_,_,_,_,z3⟩=>⟨z1,z2,z3⟩⟩
  rw[e] at tt;exact tt
 ·have e:i=xs.length:=by omega
  subst e;exact .inl ⟨⟨xs,ht,bJ _⟩,pf _ _ hP⟩
def xG(nt:Nat)(js:List Nat)(wi:TI)(g:TG)(tk tv:TE):TE:=fun σ H Q=>wi σ H fun J H1=>∀acc,H1 acc=none->∃W:Nat->Nat->List (Key×V)->Hp->Prop,(∃m,W 0 m [] (upd H1 acc (.dK [])))/\∀i m kvs H2,W i m kvs H2 ->
 (J.stop i H2/\Q (.ref acc) H2)\/(J.go i H2/\∀x H3,J.Gf i H2 x H3->g x (List.replicate nt none++bR js σ) H3 fun σ' H'=>(σ'.drop nt=bR js σ/\σ'.length=(List.replicate nt (none:Option V)++bR js σ).length)/\tk σ' H' fun y H4=>tv σ' H4 fun v H5=>
  ∃k,y=kV k/\H5 acc=some (.dK kvs)/\kvs.length<sizeLine/\∃m',m'<m/\W (i+1) m' (putK kvs k v) (upd H5 acc (.dK (putK kvs k v))))
theorem Bd{prog:AC}{w:World}{A:Around}{R:Result->AB->Prop}{s:AB}{kx vx target iter:Expr}{sc:Scope}{pos:Pos}{it:AA}{D:Addr}{env:Env}(Iv:Nat->AB->Prop)
  (turn:∀n s,Iv n s->wpAny (model prog w) A (pyNext it) (fun r s1=>match r with
   | none=>R (.ok .next) s1
   | some v=>wpAny (model prog w) A (letOwnedTupleGo target it v) (fun _ s2=>wpAny (model prog w) A (assign target env v) (fun _ s3=>
     wpAny (model prog w) A (eval kx env) (fun kv s4=>wpAny (model prog w) A (eval vx env) (fun vv s5=>
     wpAny (model prog w) A (dictSet D kv vv) (fun _ s6=>∃m,m<n/\Iv m s6) (fun _ _=>False) s5) (fun _ _=>False) s4) (fun _ _=>False) s3) (fun _ _=>False) s2) (fun _ _=>False) s1) (fun _ _=>False) s)
  (n:Nat) (h:Iv n s):codeAny (model prog w) A (.compLoop (.DictComp kx vx [⟨target,iter,[],0⟩] sc pos) 0 it (.ref D) env) R s:=by
 refine codeAny_loop rfl Iv (fun n s hI=>?_) n h;show wpAny _ _ ((compTurn (.DictComp kx vx [⟨target,iter,[],0⟩] sc pos) 0 it (.ref D) env).onRaise (fun x=>do noteFrame x env; theTreesLotGoes x)) _ _ s
 refine wpAny_noted ?_;rw[compTurn_dict];refine bh (Ag (bh (jW (turn n s hI) (fun r s1 q1=>?_) fun _ _ f=>f.elim)));cases r with
 | none=>exact cH q1
 | some v=>
  refine bh (jW q1 (fun _ s2 q2=>?_) fun _ _ f=>f.elim);refine bh (jW q2 (fun _ s3 q3=>bh (wpAny_tests_nil ?_)) fun _ _ f=>f.elim);exact bh (bh (jW q3 (fun kv s4 q4=>bh (jX (jW q4 (fun vv s5 q5=>bh (Ag (jX (jW q5 (fun _ s6 q6=>cH ⟨rfl,q6⟩) fun _ _ f=>f.elim)))) fun _ _ f=>f.elim))) fun _ _ f=>f.elim))
theorem zL{X:Cx}{kx vx iter:Expr}{tg:Expr}{g:TG}{nt:Nat}{pos:Pos}{sc:Scope}{wi:TI}{tk tv:TE}{N':List Str}{js:List Nat}{use:Option (AA->Sem Unit)}{Qc:AA->AB->Prop}{ae:LA}{s:AB}{σ:St}{H:Hp}{Q:VK}{kp:Pos}(hc:X.calm=true)(hi:PI X tg iter wi)(S:ux X nt N' js sc)
  (hgt:∀fp s H,PG (qt X N' sc fp s H) tg g) (hk:∀fp s H,PE (qt X N' sc fp s H) kx tk) (hv:∀fp s H,PE (qt X N' sc fp s H) vx tv) (hs:∀x,foldedSetIterable iter X.env x=pure x) (I:Inv X ae σ H s) (h:xG nt js wi g tk tv σ H Q)
  (fin:∀(acc C:Addr)(H':Hp)(s':AB),Inv X ae σ H' s'->gB X ae H' C->(∃m,s'.heap.Ns C m)->Q (.ref acc) H'->compPost (model X.prog X.w) X.A X.xe use Qc (.ref acc) C (.ok .next) s') :
  wpAny (model X.prog X.w) X.A (comprehension (.DictComp kx vx [⟨tg,iter,[],0⟩] sc pos) sc X.env kp newDict false (eval iter X.env) use) Qc X.xe s:=by
 refine wpAny_comprehension_free (use:=use) rfl hs S.clos S.kind S.names ?_;refine cT (hi ae s σ H _ I h) fun v s1 q1=>cT q1 fun itv s2 q2=>?_;obtain⟨it,fp,tn,J,H2,e,I2,T,st2,f2,q3⟩:=q2;subst e;refine uU ?_;obtain⟨W,⟨m0,w0⟩,turn⟩:=q3 s2.heap.objs.size I2.fresh;have I3:=I2.laid (a:=s2.heap.objs.size) (o:=.dK []) (t':=s2.toks) (fun _ _ q=>eF _ q) (bJ _) (zE s2.heap I2.big)
 have lt2:∀b∈fp,b<s2.heap.objs.size:=fun b hb=>by
  obtain⟨o,ho,_⟩:=T.obj 0 _ st2 b hb;exact bV ho
 generalize e3:({ s2 with heap:=s2.heap.push { cls:=.type "dict",data:=.dict #[] },toks:=s2.toks }:AB)=s3 at I3
 have e3':({ s2 with heap:=s2.heap.push { cls:=.type "dict",dict:=none,data:=.dict #[] } }:AB)=s3:=e3
 have sz3:s3.heap.objs.size=s2.heap.objs.size+1:=by rw[<- e3]; exact iW ..
 have st3:tn 0 s3.heap:=T.keep 0 _ _ st2 fun b hb o ho=>by rw[<- e3]; exact eF _ ho
 have lt3:∀b∈fp,b<s3.heap.objs.size:=fun b hb=>by rw[sz3]; exact GZ (lt2 b hb)
 have f3:∀b∈fp,gB X ae (upd H2 s2.heap.objs.size (.dK [])) b:=fun b hb=>⟨by rw[aJ (fG (lt2 b hb))]; exact(f2 b hb).1,(f2 b hb).2⟩
 generalize hH3:upd H2 s2.heap.objs.size (.dK [])=H3 at I3 f3 w0;refine qD ?_;generalize eh1:pushCells (s3.heap.push { cls:=.type "dict",data:=.dict #[] }) sc.names=h1;have hkp:∀b o,s3.heap.get? b=some o->h1.get? b=some o:=fun b o q=>by rw[<- eh1]; exact pushCells_keeps _ _ b o (eF _ q)
 have hns':h1.Ns s3.heap.objs.size fun _=>none:=by rw[<- eh1]; exact(Heap.Ns.new s3.heap (.type "dict")).keeps (pushCells_keeps _ _)
 have I4:Inv (qt X N' sc fp s3 H3) [] (List.replicate nt none++bR js σ) H3 { s3 with heap:=h1,toks:=s3.toks }:=CZ I3 f3 lt3 S (fun {x c} e=>by
  have:=ue sc.names (s3.heap.push { cls:=.type "dict",data:=.dict #[] }) (rT sc X.env) x c (by rw[iW]; exact e)
  rw[eh1,iW] at this
  exact this) hns' hkp
 have st4:tn 0 h1:=T.keep 0 _ _ st3 fun b hb o ho=>hkp b o ho;have stat:∀{H':Hp},(∀b∈fp,H' b=none)->∀b∈fp,gB (qt X N' sc fp s3 H3) [] H' b:=fun hn b hb=>⟨hn b hb,fG (lt3 b hb),I4.ok.Ks b hb,.inl hb,(I4.ok.exf b hb).2,fun p hp=>absurd (show p∈([]:LA) from hp) (by simp)⟩
 have out:∀{σ':St}{H':Hp}{s':AB},Inv (qt X N' sc fp s3 H3) [] σ' H' s'->Q (.ref s2.heap.objs.size) H'->compPost (model X.prog X.w) X.A X.xe use Qc (.ref s2.heap.objs.size) s3.heap.objs.size (.ok .next) s':=by
  intro σ' H' s' I' q';obtain⟨m,hn,_⟩:=id I'.loc;have I5:Inv X ae σ H' s':=I3.call' I'.os I'.base I'.hok I'.bare fun b hb=>⟨(f3 b hb).2.2.2.1,(f3 b hb).2.1,(f3 b hb).2.2.2.2.1,(f3 b hb).2.2.2.2.2⟩;exact fin _ _ H' s' I5 (I3.tY (bJ _) I'.free) ⟨m,hn⟩ q'
 have loop:∀s4:AB,s4={ s3 with heap:=h1,toks:=s3.toks }->codeAny (model X.prog X.w) X.A (.compLoop (.DictComp kx vx [⟨tg,iter,[],0⟩] sc pos) 0 (.ref it) (.ref s2.heap.objs.size) (compEnvC sc (cellsFrom (s3.heap.objs.size+1) sc.names (rT sc X.env)) s3.heap.objs.size X.env))
   (compPost (model X.prog X.w) X.A X.xe use Qc (.ref s2.heap.objs.size) s3.heap.objs.size) s4:=by
  rintro s4 rfl;refine Bd (fun n s'=>∃i ys H',Inv (qt X N' sc fp s3 H3) [] (List.replicate nt none++bR js σ) H' s'/\tn i s'.heap/\(∀b∈fp,H' b=none)/\W i n ys H') ?_ m0 ⟨0,[],H3,I4,st4,fun b hb=>(f3 b hb).1,w0⟩;rintro n s5 ⟨i,ys,H5,I5,Vq,fr5,w5⟩;rcases turn i n ys H5 w5 with⟨stop,qn⟩ | ⟨go,step⟩
  ·refine cT (T.done (qt X N' sc fp s3 H3) rfl rfl rfl hc i [] s5 _ H5 (fun _ _=>False) I5 (stat fr5) Vq stop) fun r s6 qx=>?_;obtain⟨hr,I6⟩:=qx;subst hr;exact out I6 qn
  ·refine cT (T.item (qt X N' sc fp s3 H3) rfl rfl rfl hc i [] s5 _ H5 (fun _ _=>False) I5 (stat fr5) Vq go) fun r s6 qx=>?_;obtain⟨u,hr,q6⟩:=qx;subst hr;refine cT q6 fun _ s7 qx=>?_;obtain⟨y,H7,I7,r7,y7,Vp,Ym⟩:=qx;have I7':=I7.pinned (stat Ym) (T.obj _ _ Vp);refine cT (hgt fp s3 H3 _ s7 _ H7 y u _ I7' r7 (step y _ y7)) fun _ s8 qx=>?_;obtain⟨σ8,H8,I8,hsh,q8⟩:=qx
   have wk:∀k v,(List.replicate nt none++bR js σ)[k]?=some (some v)->σ8[k]?=some (some v):=fun k v e=>by
    by_cases hlt:k<nt
    ·rw[JR (by rw[uW]; exact hlt),Ms,aX hlt] at e
     cases e
    ·rw[Ef (by rw[uW]; omega),uW,<- hsh.1,Ht] at e
     rw[show nt+(k-nt)=k by omega] at e
     exact e
   refine cT (hk fp s3 H3 _ s8 _ _ _ I8 q8) fun zk s9 qx=>?_;obtain⟨yk,H9,I9,rk,q9⟩:=qx;refine cT (hv fp s3 H3 _ s9 _ _ _ I9 q9) fun zv wu qx=>?_;obtain⟨yv,Aa,I10,rv,k,ek,ha,hz,m',hm,w10⟩:=qx;subst ek;obtain⟨z,hd,vs,rel,dd⟩:=Ik I10.hok ha;have hz':vs.length<=sizeLine:=by rw[<- rel.length]; exact z
   have hl:(putK ys k yv).length<=sizeLine:=by have:=iy ys k yv; omega
   refine wpAny_dictSet_pairs (hsz:=hz') (zb rk) dd fun h' Xa hs'=>?_;have he:∃q,h'.get? s2.heap.objs.size=some q:=let ⟨q,_,_,hq,_⟩:=Xa; ⟨q,hq⟩;have I11:=qp (t':=wu.toks+1) I10 (by rw[ha]; exact True.intro) hs' he (Fo hl hd (rel.put k rv) Xa)
   refine⟨m',hm,i+1,putK ys k yv,_,(I11.jl).weak hsh.2.symm wk,T.keep _ _ _ Vp fun b hb o e=>(I11.pin (b,o) (ju _ (ju _ (d9 hb e)))).1,fun b hb=>?_,w10⟩;obtain⟨o,e,d⟩:=T.obj _ _ Vp b hb;exact(I11.pin (b,o) (ju _ (ju _ (d9 hb e)))).2.1
 exact codeAny_compStart_dict (loop _ rfl) (T.self X.A 0 _ _ _ st4 (loop _ rfl))
theorem R3{X:Cx}{kx vx iter:Expr}{tg:Expr}{g:TG}{nt:Nat}{y:Str}{py pos spos:Pos}{sc:Scope}{wi:TI}{tk tv:TE}{N':List Str}{js:List Nat}{i:Nat}(hN:X.N.Nodup)(hi':X.N[i]?=some y)(hy:Loc X.env.scope y)(hc:X.calm=true)(hi:PI X tg iter wi)(S:ux X nt N' js sc)
  (hgt:∀fp s H,PG (qt X N' sc fp s H) tg g) (hk:∀fp s H,PE (qt X N' sc fp s H) kx tk) (hv:∀fp s H,PE (qt X N' sc fp s H) vx tv) (hs:‹∀x,foldedSetIterable iter X.env x=pure x›) (hw: ~~~(swapsWith (.DictComp kx vx [⟨tg,iter,[],0⟩] sc pos) (some (.Name y py)) spos.line X.env=pure true))
  (hf: autoParam (X.fn y=true\/X.env.scope.names.lookup y=some .local) zd._auto_1) :
  PS X (.Assign [.Name y py] (.DictComp kx vx [⟨tg,iter,[],0⟩] sc pos) spos) (DP (xG nt js wi g tk tv) (eO i)):=by
 symm;intro D I h;rw[exec_Assign_Name_used _ _ _ _ hw];refine bh (Ag (bh ?_));refine bh (zL hc hi S hgt hk hv hs I h fun acc C H' s' I5 fc ⟨m,hn⟩ q=>?_)
 have ho:∀b∈[C],∃o,s'.heap.get? b=some o/\∀v,o.data≠.cell v:=fun b hb=>by
  rw[iU.mp hb];obtain⟨o,es,n,e,ed,_⟩:=hn;exact⟨o,e,fun v z=>by rw[ed] at z; cases z⟩
 have I6:=I5.pinned (fp:=[C]) (fun b hb=>by rw[iU.mp hb]; exact fc) ho
 have hg:PG X (.Name y py) (eO i):=aG hN hi' hy hf;show wpAny _ _ (assign (.Name y py) X.env (.ref acc)) (fun _ s''=>∃m,s''.heap.Ns C m/\∀h',Heap.SameBut C s''.heap h'->_) _ s';refine cT (hg _ s' _ H' (.ref acc) (.ref acc) _ I6 rfl q) fun _ s7 qx=>?_;obtain⟨σ7,H7,I7,q7⟩:=qx
 have pc:∀o,s'.heap.get? C=some o->s7.heap.get? C=some o/\H7 C=none:=fun o e=>by
  have:=I7.pin (C,o) (ju _ (ju _ (d9 (by simp) e)))
  exact⟨this.1,this.2.1⟩
 refine⟨m,hn.at fun o e=>(pc o e).1,fun h' sb=>cH (cH ⟨σ7,H7,?_,q7⟩)⟩
 have fr:H7 C=none:=by
  obtain⟨o,es,n,e,ed,_⟩:=hn;exact(pc o e).2
 exact I7.jl.turned (it:=C) (t':=s7.toks) (fun b o hb e=>sb.extBut b o hb e) fr fc.2.1 fc.2.2.2.1 fc.2.2.2.2.1 fc.2.2.2.2.2
theorem yE{X:Cx}{kx vx iter tg:Expr}{g:TG}{nt:Nat}{pos:Pos}{sc:Scope}{wi:TI}{tk tv:TE}{N':List Str}{js:List Nat}(hc:X.calm=true)(hi:PI X tg iter wi)(S:ux X nt N' js sc)
  (hgt:∀fp s H,PG (qt X N' sc fp s H) tg g) (hk:∀fp s H,PE (qt X N' sc fp s H) kx tk) (hv:∀fp s H,PE (qt X N' sc fp s H) vx tv) (hs:‹∀x,foldedSetIterable iter X.env x=pure x›):PE X (.DictComp kx vx [⟨tg,iter,[],0⟩] sc pos) (xG nt js wi g tk tv):=by
 symm;intro Q I h;rw[arm_eval_DictComp];refine zL (use:=none) hc hi S hgt hk hv hs I h fun acc C H' s' I5 fc ⟨m,hn⟩ q=>?_;refine⟨m,hn,fun h' sb=>?_⟩;exact⟨.ref acc,H',I5.turned (it:=C) (t':=s'.toks) (fun b o hb q=>sb.extBut b o hb q) fc.1 fc.2.1 fc.2.2.2.1 fc.2.2.2.2.1 fc.2.2.2.2.2,rfl,q⟩
theorem Inv.freeze{X:Cx}{ae:LA}{σ:St}{H:Hp}{s:AB}{d:Addr}{kvs:List (Key×V)}(I:Inv X ae σ H s)(hd:H d=some (.dK kvs)) :
  ∃o es ep,s.heap.get? d=some o/\o.data=.dict es ep/\Inv X ae σ (upd H d (.tW o (.dK kvs))) s:=by
 obtain⟨z,y,vs,r,o,es,ep,e,c,hdt,rest⟩:=id (I.hok d _ hd);refine⟨o,es,ep,e,hdt,?_⟩;have:=qp (t':=s.toks) (h':=s.heap) (ob:=.tW o (.dK kvs)) I (by rw[hd]; exact True.intro) (Heap.SameBut.refl _ _) ⟨o,e⟩ ⟨e,z,y,vs,r,o,es,ep,e,c,hdt,rest⟩
 exact this
theorem Inv.aeP{X:Cx}{ae:LA}{σ σ':St}{H H':Hp}{s s':AB}{d:Addr}{kvs:List (Key×V)}{o:Obj}(I:Inv X ae σ H s)(hd:H d=some (.dK kvs))(J:Inv X ae σ' H' s')(hf:H' d=some (.tW o (.dK kvs))) :
  Inv X ae σ' (upd H' d (.dK kvs)) s':=by
 have ne:∀b,H' b=none->b≠d:=fun b n z=>by rw[z,hf] at n; cases n
 refine⟨J.ok,J.os,J.bare,⟨J.base.keep,J.base.slot,fun b q e n x=>?_,J.base.there,fun b xs e=>?_,fun b q u e=>?_,fun b ps e=>?_⟩,J.loc,J.cell,?_,fun x c e=>?_,fun p hp=>?_,fun b u e=>?_,J.len⟩
 ·rw[aJ (ne b (J.base.free b q e n x))];exact J.base.free b q e n x
 ·have:=J.base.tups b xs e;rw[aJ (fun z=>by rw[z,hf] at this; cases this)]
  exact this
 ·have h1:=I.base.wN b q u e;rw[aJ (fun z=>by rw[z,hd] at h1; cases h1)]
  exact J.base.wN b q u e
 ·obtain⟨m,h1⟩:=J.base.Ab b ps e;refine⟨m,?_⟩;rw[aJ (fun z=>by rw[z,hf] at h1; cases h1)]
  exact h1
 ·rw[aJ (ne _ J.free)]; exact J.free
 ·rw[aJ (ne _ (J.j_ x c e))]; exact J.j_ x c e
 ·obtain⟨h1,h2,h3⟩:=J.pin p hp;exact⟨h1,by rw[aJ (ne _ h2)]; exact h2,h3⟩
 ·have own:∀c,H' c=some (.own b)->upd H' d (.dK kvs) c=some (.own b):=fun c q=>by rw[aJ (fun z=>by rw[z,hf] at q; cases q)]; exact q
  have tup:∀c xs,H' c=some (.tup xs)->upd H' d (.dK kvs) c=some (.tup xs):=fun c xs q=>by rw[aJ (fun z=>by rw[z,hf] at q; cases q)]; exact q
  by_cases z:b=d
  ·rw[z,aB] at e;cases e;rw[z];exact(show bZ _ _ _ _ _ _ from(show bZ X.prog X.w H' s'.heap d (.tW o (.dK kvs)) from J.hok d _ hf).2).stay (fun _ _ _ q=>q) (fun c q=>by rw[aJ (fun z=>by rw[z,hf] at q; cases q)]; exact q) tup
  ·rw[aJ z] at e;exact(J.hok b u e).stay (fun _ _ _ q=>q) own tup
def Xu(t:TE):TE:=fun σ H Q=>t σ H fun v H'=>∃d kvs o,H d=some (.dK kvs)/\H' d=some (.tW o (.dK kvs))/\Q v (upd H' d (.dK kvs))
theorem Wc{X:Cx}{e:Expr}{t:TE}(h:PE X e t):PE X e (Xu t):=by
 symm;intro Q I hq;refine cT (h ae s σ H _ I hq) fun u s1 qx=>?_;obtain⟨v,H1,I1,r,d,kvs,o,h1,h2,q⟩:=qx;exact⟨v,_,I.aeP h1 I1 h2,r,q⟩
def ItV(d:Addr)(o:Obj)(kvs:List (Key×V)):It:=
 ⟨fun i H=>H d=some (.tW o (.dK kvs))/\i<kvs.length,fun i H x H'=>H'=H/\∃k,kvs[i]?=some (k,x),fun i H=>H d=some (.tW o (.dK kvs))/\kvs.length<=i⟩
theorem Kr{X:Cx}{ae:LA}{σ:St}{H:Hp}{s:AB}{d:Addr}{kvs:List (Key×V)}{o:Obj}{es:Array DictEntry}{ep:Nat}(I:Inv X ae σ H s)(hd:H d=some (.tW o (.dK kvs)))(ho:o.data=.dict es ep) :
  ∃vs,KV kvs vs/\s.heap.DictAt (dU X.prog X.w) d vs ep:=by
 obtain⟨e,z,y,vs,r,o',es',ep',e',c,hdt,rest⟩:=(show bZ X.prog X.w H s.heap d (.tW o (.dK kvs)) from I.hok d _ hd);rw[e] at e';cases e';rw[ho] at hdt;cases hdt;exact⟨vs,r,o,es,e,c,ho,rest⟩
theorem aag{kvs:List (Key×V)}{vs:List (Key×AA)}(r:KV kvs vs):∀{i:Nat}{k:Key}{x:V},kvs[i]?=some (k,x)->∃u,vs[i]?=some (k,u)/\RelV x u:=by
 induction r with
 | nil=>intro i k x h; cases h
 | @cons a b l1 l2 h1 h2 ih=>
  intro i k x h;cases i with
  | zero=>
   cases h;obtain⟨e1,e2⟩:=h1;exact⟨b.2,by rw[List.getElem?_cons_zero]; congr 1; exact Prod.ext e1.symm rfl,e2⟩
  | succ i=>exact ih h
theorem Oi{P:AC}{w:World}{K:Frag}{tg:Expr}{d it:Addr}{o:Obj}{kvs:List (Key×V)}{es:Array DictEntry}{ep:Nat}(ho:o.data=.dict es ep):Turn P w K tg (ItV d o kvs) [it] it (fun i h=>h.IsValIter it d i kvs.length ep) where
 mem:=by simp
 obj:=fun i h st b hb=>by
  have e:b=it:=by simpa using hb
  subst e;obtain⟨o,e,c,d⟩:=st;exact⟨o,e,fun v z=>by rw[d] at z; cases z⟩
 keep:=fun i h h' st k=>st.at fun o e=>k it (by simp) o e
 item:=by
  intro X hP hw hK hc i ae s σ H E I hf st hg;subst hP hw hK;obtain⟨hd,hi⟩:=hg;obtain⟨vs,r,da⟩:=Kr I hd ho;obtain⟨u,hu,ru⟩:=aag r (i:=i) (k:=(kvs[i]).1) (x:=(kvs[i]).2) (dC hi);obtain⟨f0,f1,f2,f3,f4,f5⟩:=hf it (by simp)
  have st2:s.heap.IsValIter it d i vs.length ep:=by rw[<- r.length]; exact st
  refine wpAny_pyNext_values_item st2 da hu fun h' st' sb=>?_;have I1:Inv X ae σ H { s with heap:=h' }:=I.turned (t':=s.toks) (fun b o hb e=>(sb.2 b hb).trans e) f0 f1 f3 f4 f5
  obtain⟨o2,e2,c2,d2⟩:=id st';refine⟨u,rfl,Dd (s:={ s with heap:=h' }) e2 c2 d2 ⋯ ⟨(kvs[i]).2,H,I1,ru,⟨rfl,(kvs[i]).1,dC hi⟩,?_,fun b hb=>(hf b hb).1⟩⟩
  rw[r.length]; exact st'
 done:=by
  intro X hP hw hK hc i ae s σ H E I hf st hg;subst hP hw hK;obtain⟨hd,hi⟩:=hg;obtain⟨vs,r,da⟩:=Kr I hd ho;obtain⟨f0,f1,f2,f3,f4,f5⟩:=hf it (by simp)
  have st2:s.heap.IsValIter it d i vs.length ep:=by rw[<- r.length]; exact st
  exact wpAny_pyNext_values_end (I.ok.hd hc) st2 da (List.getElem?_eq_none_iff.mpr (by rw[<- r.length]; exact hi)) fun h' eb=>⟨rfl,I.turned (t':=s.toks) (fun b o hb e=>eb b o hb e) f0 f1 f3 f4 f5⟩
 self:=fun _ _ _ _ _ st h=>wpAny_pyIter_valiter st h
def Yk(K:Frag)(to:TE):TI:=fun σ H R=>to σ H fun x H1=>∃d kvs,x=.ref d/\H1 d=some (.dK kvs)/\∀o,R (ItV d o kvs) (upd H1 d (.tW o (.dK kvs)))
theorem V_{X:Cx}{K:Frag}{tg o:Expr}{to:TE}{apos cpos:Pos}(hK:X.K=K)(ho:PE X o to)(hbase: ~~~(attributeBase o "values" X.env (eval o X.env)=eval o X.env))(hline: ~~~((apos.endLine==cpos.line)=true)) :
  PI X tg (.Call (.Attribute o "values" apos) [] [] cpos) (Yk K to):=by
 symm;intro R I h;refine wpAny_Call_method0_late hbase hline (cT (ho ae s σ H _ I h) fun v s1 qx=>?_);obtain⟨x,H1,I1,r1,d,kvs,ex,hd,q⟩:=qx;subst ex;cases r1;obtain⟨hz,hsm,vs,rel,dd⟩:=Ik I1.hok hd;have tyd:tyV X.K "dict" (.ref d) H1:=.inr (.inr (.inl ⟨rfl,.inl ⟨kvs,hd⟩⟩));obtain⟨h1,h2⟩:=Q9 I1 (x:=.ref d) (v:=.ref d) rfl tyd;refine⟨"dict","dict.values",PySem.F.plainAttrs_dict,PySem.F.slot_dict_values,PySem.F.type_dict_values,h1,h2,Calls.callWith_builtin rfl (PySem.evalArgs_none ?_)⟩;refine call_meetsIn PySem.F.slot_dict_values dd.typeIs PySem.F.entry_dict_values (PySem.F.args_dict_values_1 _) (meets_dict_values (dU X.prog X.w) d hsm) ⟨⟨vs,dd⟩,?_⟩;have I2:Inv X ae σ H1 { s1 with heap:=s1.heap.push { cls:=.type "dict_values",data:=.fields #[.ref d] } }:=I1.kept (t':=s1.toks) fun b u e=>eF _ e
 obtain⟨ob,es,ep,he,hdt,I3⟩:=I2.freeze hd;obtain⟨vs',r',da⟩:=Kr I3 aB hdt;refine wpAny_pyIter_values (v:=s1.heap.objs.size) ⟨_,dI _ rfl,rfl,rfl⟩ da ?_;have hz2:(s1.heap.push { cls:=.type "dict_values",data:=.fields #[.ref d] }).objs.size=s1.heap.objs.size+1:=iW ..;refine⟨_,[_],_,_,_,rfl,I3.kept (t':=s1.toks) fun b u e=>eF _ e,Oi hdt,?_,fun b hb=>?_,q ob⟩
 ·exact⟨_,dI _ rfl,rfl,by rw[r'.length]; rfl⟩
 ·have e:=iU.mp hb;subst e;exact I3.tY (bJ _) (I3.hok.fresh (bJ _))
def rZ(l:List Str)(x:Str):List Str:=if l.any (· == x) then l else l++[x]
def nu(val:Nat->Str)(i:Nat):List Str:=((List.range i).map val).foldl rZ []
theorem uZ(val:Nat->Str)(i:Nat):nu val (i+1)=rZ (nu val i) (val i):=by
 unfold nu; rw[Ho,ig,List.foldl_append]; rfl
theorem MN(val:Nat->Str):∀i,(nu val i).length<=i
 | 0=>bJ _
 | i+1=>by
  rw[uZ]; unfold rZ;have ih:=MN val i;split
  ·omega
  ·rw[dg,List.length_singleton]; omega
theorem Uw(l:List Str)(v k:Str):(rZ l v).any (· == k)=(l.any (· == k) || decide (k=v)):=by
 unfold rZ;by_cases h:l.any (· == v)=true
 ·rw[aX h];by_cases e:k=v
  ·subst e; rw[h]; simp
  ·simp[e]
 ·rw[aQ h,List.any_append];by_cases e:k=v
  ·subst e; simp
  ·have hb:(v==k)=false:=by simpa[beq_iff_eq] using(fun h':v=k=>e h'.symm)
   simp[hb,e]
theorem Jc(l:List Str)(v:Str):(rZ l v).length=if l.any (· == v) then l.length else l.length+1:=by
 unfold rZ; split <;> simp
section
variable{prog:AC}{w:World}{A:Around}{R:Result->AB->Prop}{I:Addr}{fp wr:List Addr}{G:Array GenState->Array GenState->Prop}{n:Nat}{P:Nat->AA->Prop}{St:Nat->AB->Prop}
theorem Oq(W:WalksS prog w A.in1 I fp wr G n P St)(S:Addr)(hSf:S∉fp)
  (val:Nat->Str) (hval:∀i v,P i v->∃t,v=.str (val i) t) (hb:n+1<scanBound) :
  ∀(k i:Nat)(s:AB),n-i=k->i<=n->St i s ->
   s.heap.SetOf (strKind prog w) S (fun k'=>(nu val i).any (· == k')) (nu val i).length ->
   (∀s',Moved (S::wr) G s s'->s'.heap.SetOf (strKind prog w) S (fun k'=>(nu val n).any (· == k')) (nu val n).length->R (.ok (.ret .none)) s') ->
   codeAny (model prog w) A (.builtin "set.update.loop" ⟨[.ref S,.ref I],[]⟩) R s:=by
 have hSw:S∉wr:=fun h=>hSf (W.sub _ h);have hsub:∀b∈wr,b∈S::wr:=fun b hb=>jb _ hb;intro k
 induction k with
 | zero=>
  intro i s hk hi hst hS hR;have hin:i=n:=by omega
  subst hin;refine codeAny_builtin PyProof.Rows.F.entry_set_update_loop ?_;rw[Around.under_plainId PyProof.Rows.F.plain_set_update_loop _];show wpAny _ A.in1 (pyNext (.ref I) >>= _) _ _ s;refine bh (W.done s _ _ hst fun s' hm=>?_);show wpAny _ A.in1 (ret Value.none) _ _ s';refine cH (hR s' (hm.mono hsub) ?_);obtain⟨o,es,ep,t,ho,rest⟩:=hS;exact⟨o,es,ep,t,hm.heap S _ hSw ho,rest⟩
 | succ k ih=>
  intro i s hk hi hst hS hR;have hlt:i<n:=by omega
  refine codeAny_builtin PyProof.Rows.F.entry_set_update_loop ?_;rw[Around.under_plainId PyProof.Rows.F.plain_set_update_loop _];show wpAny _ A.in1 (pyNext (.ref I) >>= _) _ _ s;refine bh (W.item i s _ _ hlt hst fun v s' hP hst' hm=>?_);obtain⟨t,rfl⟩:=hval i v hP
  have hS':s'.heap.SetOf (strKind prog w) S (fun k'=>(nu val i).any (· == k')) (nu val i).length:=by
   obtain⟨o,es,ep,tb,ho,rest⟩:=hS;exact⟨o,es,ep,tb,hm.heap S _ hSw ho,rest⟩
  show wpAny _ A.in1 (holding [Value.str (val i) t] (setAdd S (.str (val i) t)) >>= _) _ _ s';refine bh (jX ?_);unfold setAdd;refine jX ?_;refine bh ((strKind prog w).pyHash (k:=val i) (strKind_is _ _ _ _) ?_);have hroom:(nu val i).length+1<scanBound:=by have:=MN val i; omega
  refine wpAny_setAddHashed_of (knd:=strKind prog w) (s:={ s' with toks:=s'.toks+1 }) (strKind_is _ _ _ _) rfl hS' hroom fun h' hsb hS2=>?_
  have hSi:h'.SetOf (strKind prog w) S (fun k'=>(nu val (i+1)).any (· == k')) (nu val (i+1)).length:=
   SetOf_congr hS2 (fun k'=>by rw[uZ,Uw]) (by rw[uZ,Jc])
  refine cH ⟨plainId_quiet PyProof.Rows.F.plain_set_update_loop _,ih (i+1) _ ∅ hlt (W.frame _ s' _ _ hst' (Ci _) fun b hb o e=>?_) hSi fun s'' hm'' hS''=>?_⟩
  ·rw[hsb.2 b (fun h:b=S=>hSf (by rw[<- h]; exact hb))]; exact e
  ·refine hR s'' (Moved.trans W.gtrans ((hm.mono hsub).then_heap (Ci _) fun b o hb e=>?_) hm'') hS'';rw[hsb.2 b (fun h:b=S=>hb (by rw[h]; exact iK))]; exact e
end
theorem Ly:∀{ss:List Str}{us:List AA}{i:Nat}{v:AA},Vals (ss.map V.str) us->us[i]?=some v->∃t,v=.str (ss.getD i Str.empty) t
 | [],us,i,v,h,e=>by
  cases h;cases e
 | x::ss,us,i,v,h,e=>by
  cases h with
  | cons h1 h2=>
   cases i with
   | zero=>
    cases e;obtain⟨t,rfl⟩:=h1;exact⟨t,rfl⟩
   | succ i=>exact Ly (ss:=ss) h2 e
section
variable{prog:AC}{w:World}{A:Around}{E:AA->AB->Prop}{s:AB}
theorem RC{l:Addr}{items:Array AA}{ss:List Str}{Q:AA->AB->Prop}
  (hh:A.handled=none) (hl:s.heap.IsList l items) (hi:Vals (ss.map V.str) items.toList) (hb:items.size+1<scanBound)
  (h:∀(h':Heap)(tk:Nat),h'.SetOf (strKind prog w) s.heap.objs.size (fun k'=>(nu (fun i=>ss.getD i Str.empty) items.size).any (· == k')) (nu (fun i=>ss.getD i Str.empty) items.size).length ->
   (∀b o,b<s.heap.objs.size->s.heap.get? b=some o->h'.get? b=some o)->Q (.ref s.heap.objs.size) { s with heap:=h',toks:=tk }) :
  wpAny (model prog w) A (call (.type "set") [.ref l]) Q E s:=by
 obtain⟨c,tl,hmro⟩:=PySem.F.called_set.mro;have hmade:=PySem.F.called_set.made;have hsub:=PySem.F.called_set.sub;refine wpAny_call (codeAny_of_tree ?_);show wpAny _ _ (callAny (.type "set") _) _ _ _;refine cH ⟨Code.quiet_builtin _ (by decide +kernel),codeAny_builtin PySem.F.entry_type_call ?_⟩
 rw[Around.under_plain (weight_type_call_type "set" [.ref l] []) rfl];have h1:=PySem.F.called_set.notType;have h2:=PySem.F.called_set.canCreate;have hct:=PySem.F.typeCall_set_1 (.ref l)
 repeat (any_goals (first | assumption | wp_step))
 refine codeAny_mono (code_set_new_1 (.ref l) (E:=E) (Q₁:=fun obj s₁=>∃led:Bool,obj=.ref s.heap.objs.size/\s₁={ s with heap:=s.heap.push { cls:=.type "set",dict:=none,data:=.set #[] 0 (.fresh 0 0 led) } }) fun led=>⟨led,rfl,rfl⟩) fun r s₁ hr=>?_
 cases r with
 | error e=>exact hr
 | ok fl=>
  cases fl with
  | ret obj=>
   obtain⟨led,rfl,rfl⟩:=hr;have hS:(s.heap.push { cls:=.type "set",dict:=none,data:=.set #[] 0 (.fresh 0 0 led) }).get? s.heap.objs.size=some { cls:=.type "set",dict:=none,data:=.set #[] 0 (.fresh 0 0 led) }:=dI _ rfl;have hT:Shared.TypeIs { s with heap:=s.heap.push { cls:=.type "set",dict:=none,data:=.set #[] 0 (.fresh 0 0 led) } } (.ref s.heap.objs.size) "set" := ⟨_,hS,rfl⟩
   have hli:=PySem.F.called_set.init.lookup;have hbi:=PySem.F.called_set.init.bind (.ref s.heap.objs.size)
   repeat (any_goals (first | assumption | wp_step))
   refine codeAny_mono (codeAny_call_builtin (R:=wants (fun r s₂=>r=.none/\∃h' tk,s₂={ s with heap:=h',toks:=tk } /\
     h'.SetOf (strKind prog w) s.heap.objs.size (fun k'=>(nu (fun i=>ss.getD i Str.empty) items.size).any (· == k')) (nu (fun i=>ss.getD i Str.empty) items.size).length /\
     (∀b o,b<s.heap.objs.size->s.heap.get? b=some o->h'.get? b=some o)) E) PySem.F.called_set.init.plain PySem.F.entry_set_init (check_set_init_1 hT ?_)) fun r₂ s₂ hr₂=>?_
   ·obtain⟨ol,hol,hcl,nl,hdl⟩:=hl;obtain⟨ocls,odict,odata,oslots⟩:=ol;simp only at hcl hdl;subst hcl; subst hdl;have hol':(s.heap.push { cls:=.type "set",dict:=none,data:=.set #[] 0 (.fresh 0 0 led) }).get? l=some { cls:=.type "list",dict:=odict,data:=.seq items nl,slots:=oslots }:=eF _ hol;have hsls:=PySem.F.sub_list_set;have hslf:=PySem.F.sub_list_frozenset;have hne:(Value.type "list" == Value.type "dict")=false:=by decide
    have hl1:(s.heap.push { cls:=.type "set",dict:=none,data:=.set #[] 0 (.fresh 0 0 led) }).IsList l items:=⟨_,hol',rfl,nl,rfl⟩;unfold Builtin.«set.__init__» noKeywords Builtin.Frozenset.updateFrom;generalize hPI:pyIter=PI
    wp_walk
    subst hPI;refine Ec hl1 ?_;refine bh (wpAny_runValue ?_);have hlS:l<s.heap.objs.size:=bV hol;have hh3:A.in1.in1.in1.handled=none:=by simp[hh]
    have hneI:l≠(s.heap.push { cls:=.type "set",dict:=none,data:=.set #[] 0 (.fresh 0 0 led) }).objs.size:=by
     rw[iW]; exact fG (GZ hlS)
    have hSf:s.heap.objs.size∉[(s.heap.push { cls:=.type "set",dict:=none,data:=.set #[] 0 (.fresh 0 0 led) }).objs.size,l]:=by
     rw[iW]; simp only[bN,iU,e_,or_false,not_or];exact⟨fG (GR _),Eb hlS⟩
    have hval:∀(i:Nat)(v:AA),items[i]?=some v->∃t,v=.str ((fun i=>ss.getD i Str.empty) i) t:=fun i v hv=>Ly hi (by rw[Array.getElem?_toList]; exact hv)
    refine Oq ((Walks.list hh3 _ l hneI items).toS) s.heap.objs.size
     hSf (fun i=>ss.getD i Str.empty) hval hb (items.size-0) 0 _ ∅ (gU _)
     ⟨⟨_,dI _ rfl,rfl,rfl⟩,(hl1.push _)⟩ ?hS0 ?hR
    case hS0=>
     have hget:((s.heap.push { cls:=.type "set",dict:=none,data:=.set #[] 0 (.fresh 0 0 led) }).push { cls:=.type "list_iterator",data:=.fields #[.ref l,.int 0 0] }).get? s.heap.objs.size
       = some { cls:=.type "set",dict:=none,data:=.set #[] 0 (.fresh 0 0 led) }:=eF _ hS
     exact PyProof.Rows.SetOf_congr ((PyProof.Rows.setObjOf_fresh (knd:=strKind prog w) led).setOf hget (by unfold scanBound; omega)) (fun _=>rfl) rfl
    case hR=>
     intro s' hm hS';obtain⟨h',g',d',tk',os'⟩:=s';have eg:g'=s.gens:=hm.gens;have ed:d'=s.drawn:=hm.drawn;have eo:os'=s.os:=hm.os;subst eg; subst ed; subst eo;show wpAny _ _ _ _ _ _;refine cH ?_;show wpAny _ _ (ret Value.none) _ _ _;refine cH ⟨rfl,h',tk',rfl,hS',fun b o hb e=>?_⟩;have hb1:b≠s.heap.objs.size:=fG hb
     have hb2:b≠(s.heap.push { cls:=.type "set",dict:=none,data:=.set #[] 0 (.fresh 0 0 led) }).objs.size:=by
      rw[iW]; exact fG (GZ hb)
     exact hm.heap b o (by simp only[bN,iU,e_,or_false,not_or]; exact⟨hb1,hb2⟩) (eF _ (eF _ e))
   ·cases r₂ with
    | error e=>exact hr₂
    | ok fl₂=>
     cases fl₂ with
     | ret r=>
      obtain⟨rfl,h',tk,rfl,hS',hk'⟩:=hr₂
      repeat (any_goals (first | assumption | wp_step))
      exact h _ _ hS' hk'
     | _=>exact hr₂.elim
  | _=>exact hr.elim
end
def aaO(a:Addr)(n:Nat):HO:=.ext fun h=>∃o es ep t,h.get? a=some o/\o.ExactSet/\o.data=.set es ep t/\t.fits es.size=true/\es.size=n
def rP(ss:List Str):Nat:=(nu (fun i=>ss.getD i Str.empty) ss.length).length
theorem Dp{X:Cx}(hc:X.calm=true):dG X (.type "set") (fun vs H Q=>∃(l:Addr)(ss:List Str),vs=[.ref l]/\H l=some (.lst (ss.map V.str))/\ss.length<=1000/\∀p H',H p=none->aL H H'->H' p=some (aaO p (rP ss))->Q (.ref p) H'):=by
 symm;intro vs us Q I r h;obtain⟨l,ss,rfl,hl,hz,q⟩:=h;obtain⟨u,rfl,ru⟩:=r.one;cases ru;obtain⟨_,its,n,rv,e⟩:=I.hok l _ hl;have hn:=rv.length;rw[bW] at hn;refine RC (ss:=ss) (items:=its.toArray) (I.ok.hd hc) ⟨_,e,rfl,_,rfl⟩ (by simpa using rv) (by rw[gb,<- hn]; unfold scanBound; omega) fun h' tk hS hk=>?_
 have hf:=I.hok.fresh (bJ s.heap.objs.size);have hsz:its.toArray.size=ss.length:=by rw[gb,<- hn]
 rw[hsz] at hS;refine⟨.ref s.heap.objs.size,_,I.laid (a:=s.heap.objs.size) (o:=aaO s.heap.objs.size (rP ss)) (t':=tk) (fun b o q=>hk b o (bV q) q) (bJ _) ?_,rfl,q _ _ hf (aP hf _) aB⟩;obtain⟨o,es,ep,t,h1,h2,h3,h4,h5,h6,h7,h8⟩:=hS;refine⟨⟨o,es,ep,t,h1,h2,h3,h7,h8⟩,⟨o,h1⟩,fun g1 g2 z k=>?_⟩;obtain⟨o',es',ep',t',a1,a2⟩:=z;exact⟨o',es',ep',t',k _ a1,a2⟩
theorem Dq{X:Cx}:dG X (.builtin "len") (fun vs H Q=>∃(p:Addr)(n:Nat),vs=[.ref p]/\H p=some (aaO p n)/\n<=1000/\Q (.int n) H):=by
 symm;intro vs us Q I r h;obtain⟨p,n,rfl,hp,hn,q⟩:=h;obtain⟨u,rfl,ru⟩:=r.one;cases ru;obtain⟨o,es,ep,t,h1,h2,h3,h4,h5⟩:=(show ∃o es ep t,s.heap.get? p=some o/\o.ExactSet/\o.data=.set es ep t/\t.fits es.size=true/\es.size=n from(I.hok p _ hp).1);refine call_len_set h1 h2 h3 h4 (by rw[h5]; omega) ?_
 rw[h5];exact⟨.int n,H,I.tok _,⟨_,rfl⟩,q⟩
theorem Dg:∀(l acc:List Str),(l.foldl rZ acc).length<=acc.length+l.length/\((l.foldl rZ acc).length=acc.length+l.length↔l.Nodup/\∀x∈l,x∉acc)
 | [],acc=>⟨bJ _,⟨fun _=>⟨List.nodup_nil,fun x h=>by cases h⟩,fun _=>rfl⟩⟩
 | y::l,acc=>by
  obtain⟨h1,h2⟩:=Dg l (rZ acc y);have e:((y::l).foldl rZ acc)=l.foldl rZ (rZ acc y):=rfl;rw[e,fH];have hl:=Jc acc y;by_cases c:acc.any (· == y)=true
  ·rw[aX c] at hl
   have hy:y∈acc:=by
    obtain⟨z,hz,ez⟩:=List.any_eq_true.mp c;rw[<- beq_iff_eq.mp ez]; exact hz
   refine⟨∅,⟨fun z=>by omega,fun z=>absurd hy (z.2 y iK)⟩⟩
  ·rw[aQ c] at hl;have hy:y∉acc:=fun h=>c (List.any_eq_true.mpr ⟨y,h,beq_self_eq_true y⟩);have ea:rZ acc y=acc++[y]:=aQ c;refine⟨∅,⟨fun z=>?_,fun z=>?_⟩⟩
   ·obtain⟨n1,n2⟩:=h2.mp ∅
    rw[ea] at n2;refine⟨jY.mpr ⟨fun hm=>n2 y hm (by simp),n1⟩,fun x hx=>?_⟩
    rcases bN.mp hx with w | w
    ·rw[w]; exact hy
    ·exact fun hm=>n2 x w (by simp[hm])
   ·obtain⟨n1,n2⟩:=z;obtain⟨m1,m2⟩:=jY.mp n1
    have:=h2.mpr ⟨m2,fun x hx=>by
     rw[ea];intro hm;rcases iJ.mp hm with w | w
     ·exact n2 x (jb _ hx) w
     ·rw[iU.mp w] at hx; exact m1 hx⟩
    omega
theorem qm(ss:List Str):rP ss<=ss.length/\(rP ss<ss.length↔¬ss.Nodup):=by
 have e:(List.range ss.length).map (fun i=>ss.getD i Str.empty)=ss:=by
  apply Hs
  ·simp
  ·intro i h1 h2;simp[iV,h2]
 have d:rP ss=(ss.foldl rZ []).length:=by unfold rP nu; rw[e]
 obtain⟨h1,h2⟩:=Dg ss [];rw[<- d] at h1 h2;simp only[rm,Nat.zero_add] at h1 h2;refine⟨h1,⟨fun z n=>?_,fun z=>?_⟩⟩
 ·have:=h2.mpr ⟨n,fun x _=>by simp⟩; omega
 ·rcases Nat.lt_or_ge (rP ss) ss.length with w | w
  ·exact w
  ·exact absurd (h2.mp ∅).1 z
section
variable{prog:AC}{w:World}{A:Around}{E:AA->AB->Prop}{s:AB}
theorem WK:typeLookup (.type "list") "keys" = pure none:=by rw[typeLookup_type,builtinLookup_eq_fast]; kernel_rfl
theorem Py{a:Addr}{xs:Array AA}{k:Nat}{sl:Array (Option AA)}{Q:Option AA->AB->Prop}(hx:s.heap.get? a=some { cls:=.type "list",dict:=none,data:=.seq xs k,slots:=sl })(hA:A.handled=none)
  (h:∀h' tk,(∀b o,s.heap.get? b=some o->h'.get? b=some o)->Q none { s with heap:=h',toks:=tk }):wpAny (model prog w) A (getAttr? (.ref a) "keys") Q E s:=by
 obtain⟨hp,g,d,tk,os⟩:=s;have hT:∀tk',(⟨hp,g,d,tk',os⟩:AB).TypeIs (.ref a) "list" := fun _=>⟨_,hx,rfl⟩;have f1:=sub_AttributeError;have f3:=F.slot_list_getattribute.lookup;have f4:=F.slot_list_getattribute.bind (.ref a);have f5:=am_list_getattr_none;unfold getAttr? getAttrBy? getAttrBy
 repeat (any_goals (first | assumption | exact hT _ | ((with_reducible show wpAny _ _ (call (Value.builtin "list.__getattribute__") _ _) _ _ _); refine call_meets F.slot_list_getattribute (hT _) am_entry_list_getattribute (F.args_list_getattribute_2 _ _) (meets_getattribute_miss_list a xs k sl "keys" _ WK (by decide +kernel)) ⟨hx,hA,fun h' tk' e hx'=>?_⟩) | wp_step))
 obtain⟨t',u',he⟩:=hx'.there;show wpAny _ _ (getattributeRaised _ _ _ _ _ _ _) _ _ _;unfold getattributeRaised
 repeat (any_goals (first | assumption | wp_step))
 exact h _ _ fun b o e=>hx'.keeps b o e
end
structure aex(H:Hp)(xs:List V)(kvs:List (PyData×V)):Prop where
 n:xs.length=kvs.length
 p:∀(i:Nat)(x:V)(q:PyData×V),xs[i]?=some x->kvs[i]?=some q->∃t y,x=.ref t/\H t=some (.tup [y,q.2])/\adD H q.1 y
theorem ir:plainId "dict.update.loop" = true:=by decide +kernel
theorem qb:entryFor table "dict.update.loop" = some Builtin.«dict.update.loop»:=entryFor_of_tree (by kernel_rfl)
section
variable{X:Cx}{ae:LA}{σ:St}
end
section
variable{X:Cx}
end
theorem qC:typeLookup (.type "zip") "__getattr__" = pure none:=by rw[typeLookup_type,builtinLookup_eq_fast]; kernel_rfl
theorem lq:entryFor table "zip.__getattribute__" = some Builtin.«object.__getattribute__»:=
 entryFor_alias (id':="object.__getattribute__") (by kernel_rfl) (by decide +kernel) (by decide +kernel) (by kernel_rfl)
theorem S8:typeLookup (.type "zip") "keys" = pure none:=by rw[typeLookup_type,builtinLookup_eq_fast]; kernel_rfl
theorem jG(a:Addr)(xs:Array AA)(sl:Array (Option AA))(name:Str)(u:Tok)(hmiss:typeLookup (.type "zip") name=pure none)(hname:(["__module__","__name__","__qualname__","__doc__","__annotations__"]:List Str).contains name=false)(hsz:name.length+100<=sizeLine:=by size_fits) :
  Meets (Builtin.«object.__getattribute__» ⟨[.ref a,.str name u],[]⟩) (fun A R s=>s.heap.get? a=some { cls:=.type "zip",dict:=none,data:=.fields xs,slots:=sl }/\raisesAttr (.ref a) name A R s):=
 Meets.of_wp fun prog w A R s hs=>by
  obtain⟨hp,g,d,tk,os⟩:=s;obtain⟨hx,hs⟩:=hs;have hT:(⟨hp,g,d,tk,os⟩:AB).TypeIs (.ref a) "zip" := ⟨_,hx,rfl⟩;unfold Builtin.«object.__getattribute__»
  repeat (any_goals (first | assumption | wp_step))
  simp only[hname,Ai,if_false]
  repeat (any_goals (first | assumption | wp_step))
  exact wpAny_raiseAttrError hs.1 hs.2 (attrMsg_fits (by decide +kernel) hsz)
section
variable{prog:AC}{w:World}{A:Around}{E:AA->AB->Prop}{s:AB}
theorem Ke{a:Addr}{xs:Array AA}{sl:Array (Option AA)}{Q:Option AA->AB->Prop}(hx:s.heap.get? a=some { cls:=.type "zip",dict:=none,data:=.fields xs,slots:=sl })(hA:A.handled=none)
  (h:∀h' tk,(∀b o,s.heap.get? b=some o->h'.get? b=some o)->Q none { s with heap:=h',toks:=tk }):wpAny (model prog w) A (getAttr? (.ref a) "keys") Q E s:=by
 obtain⟨hp,g,d,tk,os⟩:=s;have hT:∀tk',(⟨hp,g,d,tk',os⟩:AB).TypeIs (.ref a) "zip" := fun _=>⟨_,hx,rfl⟩;have f1:=sub_AttributeError;have f3:=F.slot_zip_getattribute.lookup;have f4:=F.slot_zip_getattribute.bind (.ref a);have f5:=qC;unfold getAttr? getAttrBy? getAttrBy
 repeat (any_goals (first | assumption | exact hT _ | ((with_reducible show wpAny _ _ (call (Value.builtin "zip.__getattribute__") _ _) _ _ _); refine call_meets F.slot_zip_getattribute (hT _) lq (F.args_zip_getattribute_2 _ _) (jG a xs sl "keys" _ S8 (by decide +kernel)) ⟨hx,hA,fun h' tk' e hx'=>?_⟩) | wp_step))
 obtain⟨t',u',he⟩:=hx'.there;show wpAny _ _ (getattributeRaised _ _ _ _ _ _ _) _ _ _;unfold getattributeRaised
 repeat (any_goals (first | assumption | wp_step))
 exact h _ _ fun b o e=>hx'.keeps b o e
end
abbrev Bu(h:Heap)(z TI TO t:Addr)(b:Bool):Prop:=
 h.get? z=some { cls:=.type "zip",dict:=none,data:=.fields #[rawInt t,.bool b,.bool false,.ref TI,.ref TO],slots:=#[] }
section
variable{prog:AC}{w:World}{A:Around}{E:AA->AB->Prop}{s:AB}
theorem Ln{z TI TO t:Addr}{b:Bool}{Q:Bool->AB->Prop}(hz:Bu s.heap z TI TO t b)(ht:∃o,s.heap.get? t=some o)(q:∀h',Bu h' z TI TO t true->Heap.SameBut z s.heap h'->Q false { s with heap:=h' }) :
  wpAny (model prog w) A (Builtin.SmallTypes.ownedTupleIsFree (.ref z)) Q E s:=by
 obtain⟨o,ho⟩:=ht;unfold Builtin.SmallTypes.ownedTupleIsFree;refine bh (iH hz rfl (x:=rawInt t) rfl ?_);show wpAny _ _ (loadIfAlive ((t:Int).toNat) >>= _) _ _ _;rw[rB];refine bh (PySem.W.kdx_alive ho ?_);simp only[Option.isNone_some,Ai,if_false];refine bh (iH hz rfl (x:=.bool b) rfl ?_);cases b with
 | true=>
  rw[aQ ⋯]
  exact cH (q s.heap hz (Heap.SameBut.refl _ _))
 | false=>
  rw[aX ⋯]
  refine bh (JP hz (by simp) fun hA zA sA=>?_)
  exact cH (q hA zA sA)
structure Zaq(z i1 i2:Addr)(f1 f2:List Addr):Prop where
 a4:i1≠z
 a5:i2≠z
 b1:z∉f1
 b2:z∉f2
 b5:i1∉f2
 b6:i2∉f1
theorem Vh{z TI TO t i1 i2:Addr}{f1 f2:List Addr}{n1 n2 k:Nat}{P1 P2:Nat->AA->Prop}{S1 S2:Nat->Heap->Prop}{b:Bool}{Q:AA->AB->Prop}(Z:Zaq z i1 i2 f1 f2)(D1:Draws prog w A i1 f1 n1 P1 S1)(D2:Draws prog w A i2 f2 n2 P2 S2)
  (hz:Bu s.heap z TI TO t b) (ht:∃o,s.heap.get? t=some o) (hi:IsPair s.heap TI (.ref i1) (.ref i2)) (s1:S1 k s.heap) (s2:S2 k s.heap) (k1:k<n1) (k2:k<n2)
  (q:∀x y h' tk,P1 k x->P2 k y->Bu h' z TI TO t true->S1 (k+1) h'->S2 (k+1) h'->IsPair h' s.heap.objs.size x y->(∀c o,c≠z->c≠i1->c≠i2->s.heap.get? c=some o->h'.get? c=some o)->Q (.ref s.heap.objs.size) { s with heap:=h',toks:=tk }) :
  wpAny (model prog w) A (Builtin.«zip.__next__» ⟨[.ref z],[]⟩) (fun fin s'=>∃v,fin=.done (.ret v)/\Q v s') E s:=by
 show wpAny _ _ (field (.ref z) 2 >>= _) _ _ _; refine bh (iH hz rfl (x:=.bool false) rfl ?_);show wpAny _ _ (field (.ref z) 3 >>= _) _ _ _; refine bh (iH hz rfl (x:=.ref TI) rfl (bh (qZ hi rfl ?_)));show wpAny _ _ (Builtin.SmallTypes.ownedTupleIsFree (.ref z) >>= _) _ _ _;refine bh (Ln hz ht fun hA zA sA=>?_);simp only[Ai,if_false];refine bh ?_;rw[<- Array.forIn_toList];simp only[GK,Hj];refine bh (bh (jX ?_)); show wpAny _ _ (Builtin.SmallTypes.nextOf (.ref i1) >>= _) _ _ _;refine bh (D1.item k _ _ _ k1 (D1.frame _ _ _ s1 (Gg sA Z.b1)) fun x hB tB pB stb sB=>cH ?_);have uB:S2 k hB:=D2.frame _ _ _ (D2.frame _ _ _ s2 (Gg sA Z.b2)) (Gg sB Z.b5);refine cH (bh (bh (jX ?_))); show wpAny _ _ (Builtin.SmallTypes.nextOf (.ref i2) >>= _) _ _ _;refine bh (D2.item k _ _ _ k2 uB fun y hD tD pD std sD=>cH ?_);refine cH (cH (bh (wpAny_newTuple (hsz:=jE (a_ (by decide:2<=1000))) ?_)))
 have zD:Bu hD z TI TO t true:=sD.extBut _ _ Z.a5.symm (sB.extBut _ _ Z.a4.symm zA);have size:hD.objs.size=s.heap.objs.size:=by rw[sD.1,sB.1,sA.1]
 have up:∀c o,hD.get? c=some o->(hD.push { cls:=.type "tuple",data:=.seq #[x,y] }).get? c=some o:=fun c o e=>eF _ e;have kB:∀c o,c≠z->c≠i1->c≠i2->s.heap.get? c=some o->hD.get? c=some o:=fun c o n1 n3 n4 e=>sD.extBut _ _ n4 (sB.extBut _ _ n3 (sA.extBut _ _ n1 e));have u1:S1 (k+1) hD:=D1.frame _ _ _ stb (Gg sD Z.b6);have tJ:(hD.push { cls:=.type "tuple",data:=.seq #[x,y] }).get? hD.objs.size=some { cls:=.type "tuple",data:=.seq #[x,y] }:=dI _ rfl;refine cH ⟨_,rfl,?_⟩;show Q (.ref hD.objs.size) _;rw[size] at tJ ⊢;exact q x y _ tD pB pD (up _ _ zD) (D1.frame _ _ _ u1 fun c hc o e=>up c o e) (D2.frame _ _ _ std fun c hc o e=>up c o e) tJ fun c o n1 n3 n4 e=>up c o (kB c o n1 n3 n4 e)
theorem Q0{z TI TO t i1 i2:Addr}{f1 f2:List Addr}{n1 n2:Nat}{P1 P2:Nat->AA->Prop}{S1 S2:Nat->Heap->Prop}{b:Bool}{Q:Fin->AB->Prop}(Z:Zaq z i1 i2 f1 f2)(D1:Draws prog w A i1 f1 n1 P1 S1)(D2:Draws prog w A i2 f2 n2 P2 S2)
  (hz:Bu s.heap z TI TO t b) (ht:∃o,s.heap.get? t=some o) (hi:IsPair s.heap TI (.ref i1) (.ref i2)) (s1:S1 n1 s.heap)
  (q:∀h' e,(∀c o,c≠z->c≠i1->c≠i2->s.heap.get? c=some o->h'.get? c=some o)->(∃o,h'.get? e=some o/\o.cls=.type "StopIteration")->∀tk,E (.ref e) { s with heap:=h',toks:=tk }) :
  wpAny (model prog w) A (Builtin.«zip.__next__» ⟨[.ref z],[]⟩) Q E s:=by
 show wpAny _ _ (field (.ref z) 2 >>= _) _ _ _; refine bh (iH hz rfl (x:=.bool false) rfl ?_);show wpAny _ _ (field (.ref z) 3 >>= _) _ _ _; refine bh (iH hz rfl (x:=.ref TI) rfl (bh (qZ hi rfl ?_)));show wpAny _ _ (Builtin.SmallTypes.ownedTupleIsFree (.ref z) >>= _) _ _ _;refine bh (Ln hz ht fun hA zA sA=>?_);simp only[Ai,if_false];refine bh ?_;rw[<- Array.forIn_toList];simp only[GK,Hj];refine bh (bh (jX ?_)); show wpAny _ _ (Builtin.SmallTypes.nextOf (.ref i1) >>= _) _ _ _;refine bh (D1.done _ _ _ (D1.frame _ _ _ s1 (Gg sA Z.b1)) fun hB x sB hx=>?_);exact q hB x (fun c o m1 m3 _ e=>sB _ _ m3 (sA.extBut _ _ m1 e)) hx _
theorem abD{z TI TO t i1 i2:Addr}{f1 f2:List Addr}{n1 n2 k:Nat}{P1 P2:Nat->AA->Prop}{S1 S2:Nat->Heap->Prop}{b:Bool}{Q:Option AA->AB->Prop}(Z:Zaq z i1 i2 f1 f2)(D1:Draws prog w A.in1 i1 f1 n1 P1 S1)(D2:Draws prog w A.in1 i2 f2 n2 P2 S2)
  (hz:Bu s.heap z TI TO t b) (ht:∃o,s.heap.get? t=some o) (hi:IsPair s.heap TI (.ref i1) (.ref i2)) (s1:S1 k s.heap) (s2:S2 k s.heap) (k1:k<n1) (k2:k<n2)
  (q:∀x y h' tk,P1 k x->P2 k y->Bu h' z TI TO t true->S1 (k+1) h'->S2 (k+1) h'->IsPair h' s.heap.objs.size x y->(∀c o,c≠z->c≠i1->c≠i2->s.heap.get? c=some o->h'.get? c=some o)->Q (some (.ref s.heap.objs.size)) { s with heap:=h',toks:=tk }) :
  wpAny (model prog w) A (pyNext (.ref z)) Q E s:=by
 have ty:s.TypeIs (.ref z) "zip" := ⟨_,hz,rfl⟩;unfold pyNext;refine bh (wpAny_attempt (Hd (name:=Str.ofString "__next__") ty F.slot_zip_next (Ah F.slot_zip_next ty F.entry_zip_next ?_ (F.args_zip_next_1 _))));exact Vh Z D1 D2 hz ht hi s1 s2 k1 k2 fun x y h' tk p1 p2 v1 v2 v3 v4 v5=>cH (q x y h' tk p1 p2 v1 v2 v3 v4 v5)
theorem YX{z TI TO t i1 i2:Addr}{f1 f2:List Addr}{n1 n2:Nat}{P1 P2:Nat->AA->Prop}{S1 S2:Nat->Heap->Prop}{b:Bool}{Q:Option AA->AB->Prop}(Z:Zaq z i1 i2 f1 f2)(D1:Draws prog w A.in1 i1 f1 n1 P1 S1)(D2:Draws prog w A.in1 i2 f2 n2 P2 S2)
  (hz:Bu s.heap z TI TO t b) (ht:∃o,s.heap.get? t=some o) (hi:IsPair s.heap TI (.ref i1) (.ref i2)) (s1:S1 n1 s.heap)
  (q:∀h' tk,(∀c o,c≠z->c≠i1->c≠i2->s.heap.get? c=some o->h'.get? c=some o)->Q none { s with heap:=h',toks:=tk }):wpAny (model prog w) A (pyNext (.ref z)) Q E s:=by
 have ty:s.TypeIs (.ref z) "zip" := ⟨_,hz,rfl⟩;unfold pyNext;refine bh (wpAny_attempt (Hd (name:=Str.ofString "__next__") ty F.slot_zip_next (Ah F.slot_zip_next ty F.entry_zip_next ?_ (F.args_zip_next_1 _))));refine Q0 Z D1 D2 hz ht hi s1 fun h' e k hx tk=>?_;obtain⟨o,g,c⟩:=hx;exact bh (wpAny_isInstance (T:="StopIteration") (b:=true) ⟨o,g,c⟩ isSubtype_stop (cH (q _ tk k)))
end
def jZ(acc:List (Key×V))(kvs:List (Key×V)):List (Key×V):=kvs.foldl (fun a p=>putK a p.1 p.2) acc
structure ZS(z TI TO i1 i2 a b:Addr)(i:Nat)(h:Heap):Prop where
 st:(IsZip h z TI TO .none/\∃x y,IsPair h TO x y)\/∃t fl,Bu h z TI TO t fl/\(∃o,h.get? t=some o)/\t≠z/\t≠i1/\t≠i2
 p:IsPair h TI (.ref i1) (.ref i2)
 l:h.IsListIter i1 a i
 r:h.IsListIter i2 b i
structure Zn(z TI TO i1 i2:Addr):Prop where
 n1:TI≠z
 n2:TO≠z
 n3:TI≠TO
 n4:i1≠z
 n5:i2≠z
 n6:TO≠i1
 n7:TO≠i2
 n8:i1≠i2
 n9:TI≠i1
 n10:TI≠i2
section
variable{X:Cx}{ae:LA}{σ:St}{z TI TO i1 i2 a b:Addr}
theorem ZS.keep{i:Nat}{h h':Heap}(S:ZS z TI TO i1 i2 a b i h)(k:∀c o,h.get? c=some o->h'.get? c=some o):ZS z TI TO i1 i2 a b i h':=by
 obtain⟨st,p,l,r⟩:=S;refine⟨?_,k _ _ p,l.at fun o e=>k _ _ e,r.at fun o e=>k _ _ e⟩;rcases st with⟨g,x,y,e⟩ | ⟨t,fl,g,⟨o,e⟩,n⟩
 ·exact .inl ⟨k _ _ g,x,y,k _ _ e⟩
 ·exact .inr ⟨t,fl,k _ _ g,⟨o,k _ _ e⟩,n⟩
theorem Vd{H:Hp}{s:AB}{A:Around}{E:AA->AB->Prop}{xs ys:List V}{i:Nat}{x y:V}{Q:Option AA->AB->Prop}(N:Zn z TI TO i1 i2)(I:Inv X ae σ H s)(hh:A.handled=none)(ha:H a=some (.lst xs))(hb:H b=some (.lst ys))(S:ZS z TI TO i1 i2 a b i s.heap)
  (hf:∀c∈[z,TI,TO,i1,i2],gB X ae H c) (hx:xs[i]?=some x) (hy:ys[i]?=some y)
  (q:∀t u v s1,RelV x u->RelV y v->Inv X ae σ H s1->IsPair s1.heap t u v->ZS z TI TO i1 i2 a b (i+1) s1.heap->Q (some (.ref t)) s1):wpAny (model X.prog X.w) A (pyNext (.ref z)) Q E s:=by
 obtain⟨us,ru,pu⟩:=kL.inv I (cG.of ha);obtain⟨vs,rv,pv⟩:=kL.inv I (cG.of hb);obtain⟨u,hu,ru'⟩:=ru.get hx;obtain⟨v,hv,rv'⟩:=rv.get hy;have na:∀c∈[z,TI,TO,i1,i2],a≠c:=fun c hc=>kL.ne I (cG.of ha) (hf c hc);have nb:∀c∈[z,TI,TO,i1,i2],b≠c:=fun c hc=>kL.ne I (cG.of hb) (hf c hc);have hh1:A.in1.handled=none:=hh;have l1:i<us.toArray.size:=by have:=(iY.mp hu).1; simpa using this
 have l2:i<vs.toArray.size:=by have:=(iY.mp hv).1; simpa using this
 have eu:∀{u':AA},us.toArray[i]?=some u'->u'=u:=fun {u'} hu'=>by
  have:us[i]?=some u':=by simpa using hu'
  rw[hu] at this; exact(Option.some.inj this).symm
 have ev:∀{u':AA},vs.toArray[i]?=some u'->u'=v:=fun {u'} hu'=>by
  have:vs[i]?=some u':=by simpa using hu'
  rw[hv] at this; exact(Option.some.inj this).symm
 obtain⟨st,p,l,r⟩:=S;have fk:∀c∈[z,TO,i1,i2],gB X ae H c:=fun c hc=>hf c (by simp only[bN,e_,or_false] at hc ⊢; rcases hc with h | h | h | h <;> simp[h])
 rcases st with⟨g,xo,yo,e⟩ | ⟨t,fl,g,e,nt⟩
 ·have Z:Yw z TI TO i1 i2 [i1,a] [i2,b]:=⟨N.n1,N.n2,N.n3,N.n4,N.n5,N.n6,N.n7,N.n8,by simp; exact⟨N.n4.symm,(na z (by simp)).symm⟩,by simp; exact⟨N.n5.symm,(nb z (by simp)).symm⟩,by simp; exact⟨N.n6,(na TO (by simp)).symm⟩,by simp; exact⟨N.n7,(nb TO (by simp)).symm⟩,by simp; exact⟨N.n8,(nb i1 (by simp)).symm⟩,by simp; exact⟨N.n8.symm,(na i2 (by simp)).symm⟩⟩
  have lz:z<s.heap.objs.size:=bV g;have li1:i1<s.heap.objs.size:=by obtain⟨o,e,_⟩:=l; exact bV e
  have li2:i2<s.heap.objs.size:=by obtain⟨o,e,_⟩:=r; exact bV e
  refine QT Z (kL.dr hh1 (na i1 (by simp)) us.toArray) (kL.dr hh1 (nb i2 (by simp)) vs.toArray) g p e (show _/\_ from⟨l,pu⟩) (show _/\_ from⟨r,pv⟩) l1 l2 fun u' v' h' tk hu' hv' z1 z2 z3 z4 z5 z6 kk=>?_
  cases eu hu';cases ev hv';have I1:Inv X ae σ H { s with heap:=h',toks:=tk }:=I.mW (fp:=[z,TO,i1,i2]) (fun c o hc q=>kk c o (fun w=>hc (by simp[w])) (fun w=>hc (by simp[w])) (fun w=>hc (by simp[w])) (fun w=>hc (by simp[w])) q) fk
  exact q _ _ _ _ ru' rv' I1 z5 ⟨.inr ⟨_,false,z1,⟨_,z5⟩,Eb lz,Eb li1,Eb li2⟩,kk _ _ N.n1 N.n3 N.n9 N.n10 p,z3.1,z4.1⟩
 ·have Z:Zaq z i1 i2 [i1,a] [i2,b]:=⟨N.n4,N.n5,by simp; exact⟨N.n4.symm,(na z (by simp)).symm⟩,by simp; exact⟨N.n5.symm,(nb z (by simp)).symm⟩,by simp; exact⟨N.n8,(nb i1 (by simp)).symm⟩,by simp; exact⟨N.n8.symm,(na i2 (by simp)).symm⟩⟩
  refine abD Z (kL.dr hh1 (na i1 (by simp)) us.toArray) (kL.dr hh1 (nb i2 (by simp)) vs.toArray) g e p (show _/\_ from⟨l,pu⟩) (show _/\_ from⟨r,pv⟩) l1 l2 fun u' v' h' tk hu' hv' z1 z3 z4 z5 kk=>?_
  cases eu hu';cases ev hv';have I1:Inv X ae σ H { s with heap:=h',toks:=tk }:=I.mW (fp:=[z,TO,i1,i2]) (fun c o hc q=>kk c o (fun w=>hc (by simp[w])) (fun w=>hc (by simp[w])) (fun w=>hc (by simp[w])) q) fk
  obtain⟨ot,et⟩:=e;exact q _ _ _ _ ru' rv' I1 z5 ⟨.inr ⟨t,true,z1,⟨ot,kk _ _ nt.1 nt.2.1 nt.2.2 et⟩,nt⟩,kk _ _ N.n1 N.n9 N.n10 p,z3.1,z4.1⟩
theorem Ve{H:Hp}{s:AB}{A:Around}{E:AA->AB->Prop}{xs ys:List V}{Q:Option AA->AB->Prop}(N:Zn z TI TO i1 i2)(I:Inv X ae σ H s)(hh:A.handled=none)(ha:H a=some (.lst xs))(hb:H b=some (.lst ys))(S:ZS z TI TO i1 i2 a b xs.length s.heap)
  (hf:∀c∈[z,TI,TO,i1,i2],gB X ae H c)
  (q:∀s1,Inv X ae σ H s1->Q none s1):wpAny (model X.prog X.w) A (pyNext (.ref z)) Q E s:=by
 obtain⟨us,ru,pu⟩:=kL.inv I (cG.of ha);obtain⟨vs,rv,pv⟩:=kL.inv I (cG.of hb);have na:∀c∈[z,TI,TO,i1,i2],a≠c:=fun c hc=>kL.ne I (cG.of ha) (hf c hc);have nb:∀c∈[z,TI,TO,i1,i2],b≠c:=fun c hc=>kL.ne I (cG.of hb) (hf c hc);have hh1:A.in1.handled=none:=hh;have el:xs.length=us.toArray.size:=by rw[ru.length,gb]
 obtain⟨st,p,l,r⟩:=S;have fk:∀c∈[z,TO,i1,i2],gB X ae H c:=fun c hc=>hf c (by simp only[bN,e_,or_false] at hc ⊢; rcases hc with h | h | h | h <;> simp[h])
 rcases st with⟨g,xo,yo,e⟩ | ⟨t,fl,g,e,nt⟩
 ·have Z:Yw z TI TO i1 i2 [i1,a] [i2,b]:=⟨N.n1,N.n2,N.n3,N.n4,N.n5,N.n6,N.n7,N.n8,by simp; exact⟨N.n4.symm,(na z (by simp)).symm⟩,by simp; exact⟨N.n5.symm,(nb z (by simp)).symm⟩,by simp; exact⟨N.n6,(na TO (by simp)).symm⟩,by simp; exact⟨N.n7,(nb TO (by simp)).symm⟩,by simp; exact⟨N.n8,(nb i1 (by simp)).symm⟩,by simp; exact⟨N.n8.symm,(na i2 (by simp)).symm⟩⟩
  refine Lk Z (kL.dr hh1 (na i1 (by simp)) us.toArray) (kL.dr hh1 (nb i2 (by simp)) vs.toArray) g p e (show _/\_ from⟨l,pu⟩) (show _/\_ from⟨r,pv⟩) (.inl el) fun h' tk kk=>q _ ?_
  exact I.mW (fp:=[z,TO,i1,i2]) (fun c o hc q=>kk c o (fun w=>hc (by simp[w])) (fun w=>hc (by simp[w])) (fun w=>hc (by simp[w])) (fun w=>hc (by simp[w])) q) fk
 ·have Z:Zaq z i1 i2 [i1,a] [i2,b]:=⟨N.n4,N.n5,by simp; exact⟨N.n4.symm,(na z (by simp)).symm⟩,by simp; exact⟨N.n5.symm,(nb z (by simp)).symm⟩,by simp; exact⟨N.n8,(nb i1 (by simp)).symm⟩,by simp; exact⟨N.n8.symm,(na i2 (by simp)).symm⟩⟩
  refine YX Z (kL.dr hh1 (na i1 (by simp)) us.toArray) (kL.dr hh1 (nb i2 (by simp)) vs.toArray) g e p (show _/\_ from⟨by rw[<- el]; exact l,pu⟩) fun h' tk kk=>q _ ?_
  exact I.mW (fp:=[z,TO,i1,i2]) (fun c o hc q=>kk c o (fun w=>hc (by simp[w])) (fun w=>hc (by simp[w])) (fun w=>hc (by simp[w])) q) fk
end
section
variable{X:Cx}{ae:LA}{σ:St}{z TI TO i1 i2 a b p:Addr}{ks:List Key}{ys:List V}
theorem Od(N:Zn z TI TO i1 i2)(hn:ks.length=ys.length)(hz:ks.length<=1000):∀(k i:Nat)(H:Hp)(s:AB)(A:Around)(acc:List (Key×V))(R:Result->AB->Prop),ks.length-i=k->i<=ks.length->A.handled=none->Inv X ae σ H s->H p=some (.dK acc)->acc.length<=i ->
  H a=some (.lst (ks.map kV))->H b=some (.lst ys)->ZS z TI TO i1 i2 a b i s.heap->(∀c∈[z,TI,TO,i1,i2],gB X ae H c) ->
  (∀s',Inv X ae σ (upd H p (.dK (jZ acc ((ks.zip ys).drop i)))) s'->R (.ok (.ret .none)) s') ->
  wpAny (model X.prog X.w) A.in1 (Builtin.«dict.update.loop» ⟨[.ref p,.ref z,rawInt i,.none],[]⟩) (fun fin s'=>match fin with | .done f=>R (.ok f) s' | .again c'=>c'.quiet=true/\codeAny (model X.prog X.w) A c' R s') (fun e s'=>R (.error e) s') s:=by
 intro k
 induction k with
 | zero=>
  intro i H s A acc R hk hi hh I hp hacc ha hb S fp q;have ei:i=ks.length:=by omega
  unfold Builtin.«dict.update.loop»;refine bh (Ve N I hh ha hb (by rw[bW,<- ei]; exact S) fp fun s1 I1=>?_)
  dsimp only;unfold Builtin.Dict.addKeywords
  wp_walk
  refine q s1 ?_;have e:(ks.zip ys).drop i=[]:=List.drop_eq_nil_of_le (by rw[List.length_zip]; omega)
  rw[e]
  have eH:upd H p (.dK (jZ acc []))=H:=by
   funext c
   by_cases w:c=p
   ·rw[w,aB,hp]; rfl
   ·rw[aJ w]
  rw[eH];exact I1
 | succ k ih=>
  intro i H s A acc R hk hi hh I hp hacc ha hb S fp q;have hik:i<ks.length:=by omega
  have hiy:i<ys.length:=by omega
  have hd:(ks.zip ys).drop i=(ks[i],ys[i])::(ks.zip ys).drop (i+1):=by
   rw[Hf (by rw[List.length_zip]; omega),List.getElem_zip]
  unfold Builtin.«dict.update.loop»;refine bh (Vd N I hh ha hb S fp (x:=kV ks[i]) (y:=ys[i]) (by rw[cM,dC hik]; rfl) (dC hiy) fun t u v s1 ru rv I1 e1 S1=>?_)
  dsimp only;have hT:s1.TypeIs (.ref t) "tuple" := ⟨_,e1,rfl⟩;refine bh (jX ?_);unfold Builtin.Dict.pairItems;refine bh (JM (bh (yx hT ?_)));rw[aX ⋯]
  refine bh (qZ e1 rfl (cH ?_));obtain⟨zz,hsm,ws,rel,dd⟩:=Ik I1.hok hp;have hz':ws.length<=sizeLine:=by rw[<- rel.length]; exact zz
  have hl:(putK acc ks[i] ys[i]).length<=sizeLine:=by have h1:=iy acc ks[i] ys[i]; have h2:=a_ (n:=acc.length+1) ∅; omega
  refine jX (wpAny_dictSet_pairs (hsz:=hz') (zb ru) dd fun h2 dd2 hs=>?_);have he:∃q,h2.get? p=some q:=let ⟨q,_,_,hq,_⟩:=dd2; ⟨q,hq⟩;have I2:=qp (t':=s1.toks+1) I1 (by rw[hp]; exact True.intro) hs he (Fo hl hsm (rel.put ks[i] rv) dd2)
  have npH:∀c,H c=none->c≠p:=fun c hc w=>by rw[w,hp] at hc; cases hc
  have nl:∀c zs,H c=some (.lst zs)->c≠p:=fun c zs hc w=>by rw[w,hp] at hc; cases hc
  refine cH ⟨plainId_quiet ir _,codeAny_builtin qb ?_⟩;rw[Around.under_plainId ir _];refine ih (i+1) _ _ A (putK acc ks[i] ys[i]) R ∅ ∅ hh I2 aB (by have:=iy acc ks[i] ys[i]; omega) (by rw[aJ (nl _ _ ha)]; exact ha) (by rw[aJ (nl _ _ hb)]; exact hb) ?_ (fun c hc=>⟨by rw[aJ (npH c (fp c hc).1)]; exact(fp c hc).1,(fp c hc).2⟩) fun s' J=>?_
  ·have kc:∀c o,c∈[z,TI,TO,i1,i2]->s1.heap.get? c=some o->h2.get? c=some o:=fun c o hc e=>(hs.2 c (npH c (fp c hc).1)).trans e;obtain⟨st,p',l,r⟩:=S1;refine⟨?_,kc _ _ (by simp) p',l.at fun o e=>kc _ _ (by simp) e,r.at fun o e=>kc _ _ (by simp) e⟩
   rcases st with⟨g,x,y,e⟩ | ⟨t',fl,g,⟨o,e⟩,n⟩
   ·exact .inl ⟨kc _ _ (by simp) g,x,y,kc _ _ (by simp) e⟩
   ·refine .inr ⟨t',fl,kc _ _ (by simp) g,?_,n⟩
    by_cases w:t'=p
    ·rw[w]; exact he
    ·exact⟨o,(hs.2 t' w).trans e⟩
  ·rw[hd] at q;refine q s' ?_;have eH:upd (upd H p (.dK (putK acc ks[i] ys[i]))) p (.dK (jZ (putK acc ks[i] ys[i]) ((ks.zip ys).drop (i+1))))=upd H p (.dK (jZ acc ((ks[i],ys[i])::(ks.zip ys).drop (i+1)))):=wR;rw[<- eH];exact J
end
section
variable{X:Cx}
def Gv(ta:TA):TE:=fun σ H Q=>ta σ H fun vs H1=>∃(a b:Addr)(ks:List Key)(ys:List V),vs=[.ref a,.ref b]/\H1 a=some (.lst (ks.map kV))/\H1 b=some (.lst ys)/\ks.length=ys.length/\ks.length<=1000/\∀p H',H1 p=none->aL H1 H'->H' p=some (.dK (jZ [] (ks.zip ys)))->Q (.ref p) H'
theorem JV{e e':Expr}{p p2 pos pos2:Pos}{ta:TA}(hc:X.calm=true)(hm:X.mg "dict" = none)(hm2:X.mg "zip" = none)(ha:PA X [e,e'] ta)(hg: ~~~(Gl X "dict"))(hg2: ~~~(Gl X "zip"))(h1: ~~~(b7 e=true))(h2: ~~~(b7 e'=true))
  (h3: ~~~(b7 (.Call (.Name "zip" p2) [e,e'] [] pos2)=true)) :
  PE X (.Call (.Name "dict" p) [.Call (.Name "zip" p2) [e,e'] [] pos2] [] pos) (Gv ta):=by
 symm;intro Q I h;refine uV (jy I hg hm N8 ?_ ⋯ ⋯)
 refine PyProof.Rows.callWith_type1 ?_ (cC h3) rfl;rw[cC h3];show wpAny _ _ (spliced ((false,eval (.Call (.Name "zip" p2) [e,e'] [] pos2) X.env)::backTo pos (starEach [] X.env))) _ _ s;refine Calls.spliced_cons ?_;refine uV (jy I hg2 hm2 K_ ?_ ⋯ ⋯)
 refine PyProof.Rows.callWith_type1 (cT (ha pos2 ae s σ H _ I h) fun us s1 qx=>?_) (cC h1) (cL (es:=[e']) (by simp[h2]))
 obtain⟨vs,H1,I1,r1,a,b,ks,ys,rfl,hla,hlb,hn,hz,q⟩:=qx;obtain⟨u,v,rfl,ru,rv⟩:=r1.two;cases ru;cases rv;obtain⟨us,_,pu,_⟩:=I1.list (cG.of hla);obtain⟨ws,_,pw,_⟩:=I1.list (cG.of hlb);refine Dn pu.isList pw.isList fun h' hzz hp ho l1 l2 kk=>?_;have I2:Inv X ae σ H1 { s1 with heap:=h' }:=I1.kept (t':=s1.toks) kk
 have fr:∀n,H1 (s1.heap.objs.size+n)=none:=fun n=>I1.hok.fresh (Oz _ _);have fk:∀n,gB X ae H1 (s1.heap.objs.size+n):=fun n=>I1.tY (Oz _ _) (fr n);have ne:∀i j:Nat,i≠j->s1.heap.objs.size+i≠s1.heap.objs.size+j:=fun i j n e=>n (Nat.add_left_cancel e);have N:Zn (s1.heap.objs.size+4) (s1.heap.objs.size+2) (s1.heap.objs.size+3) s1.heap.objs.size (s1.heap.objs.size+1):=⟨ne _ _ ⋯,ne _ _ ⋯,ne _ _ ⋯,ne 0 _ ⋯,ne _ _ ⋯,ne _ 0 ⋯,ne _ _ ⋯,ne 0 _ ⋯,ne _ 0 ⋯,ne _ _ ⋯⟩
 have S0:ZS (s1.heap.objs.size+4) (s1.heap.objs.size+2) (s1.heap.objs.size+3) s1.heap.objs.size (s1.heap.objs.size+1) a b 0 h':=⟨.inl ⟨hzz,_,_,ho⟩,hp,l1,l2⟩
 have fp:∀c∈[s1.heap.objs.size+4,s1.heap.objs.size+2,s1.heap.objs.size+3,s1.heap.objs.size,s1.heap.objs.size+1],gB X ae H1 c:=fun c hc=>by
  simp only[bN,e_,or_false] at hc;rcases hc with rfl | rfl | rfl | rfl | rfl
  ·exact fk 4
  ·exact fk 2
  ·exact fk 3
  ·exact fk 0
  ·exact fk 1
 clear fr fk ne l1 l2 hp ho;generalize s1.heap.objs.size+4=z at *;generalize s1.heap.objs.size+2=TI at *;generalize s1.heap.objs.size+3=TO at *;generalize s1.heap.objs.size+1=i2 at *;generalize s1.heap.objs.size=i1 at *;obtain⟨s2,hs2⟩:∃s2,({ s1 with heap:=h' }:AB)=s2:=⟨_,rfl⟩
 have e2:h'=s2.heap:=by rw[<- hs2]
 rw[hs2] at I2 ⊢;rw[e2] at S0 hzz;refine Calls.spliced_nil ?_;have hh:X.A.handled=none:=I2.ok.hd hc;have hf:=I2.hok.fresh (bJ s2.heap.objs.size);have I3:=I2.laid (a:=s2.heap.objs.size) (o:=.dK []) (t':=s2.toks) (fun _ _ q=>eF _ q) (bJ _) (zE s2.heap I2.big);have sm:=aP hf (.dK []);have hd3:upd H1 s2.heap.objs.size (.dK []) s2.heap.objs.size=some (.dK []):=aB;refine callType_codes (Q₁:=fun obj s₁=>obj=.ref s2.heap.objs.size/\s₁={ s2 with heap:=s2.heap.push { cls:=.type "dict",data:=.dict #[] } }) F.kt_called_dict (F.kt_typeCall_dict_1 _) F.entry_dict_init (kt_code_dict_new _ ⟨rfl,rfl⟩) ?_
 rintro obj s₁ ⟨rfl,rfl⟩;have hT:Shared.TypeIs { s2 with heap:=s2.heap.push { cls:=.type "dict",data:=.dict #[] } } (.ref s2.heap.objs.size) "dict" := ⟨_,dI _ rfl,rfl⟩
 refine⟨hT,F.args_dict_init_2 _ _,?_⟩;unfold Builtin.«dict.__init__»;refine bh ?_;unfold Builtin.Dict.selfAndRest;refine bh (wpAny_notOrdered_dict hT ?_);show wpAny _ _ (pure (s2.heap.objs.size,[Value.ref z])) _ _ _;refine cH ?_;show wpAny _ _ (Builtin.Dict.updateFrom "dict.__init__" s2.heap.objs.size (.ref z) [] .none) _ _ _;unfold Builtin.Dict.updateFrom;have ez:(s2.heap.push { cls:=.type "dict",data:=.dict #[] }).get? z=some _:=eF _ hzz;refine bh (yx ⟨_,ez,rfl⟩ ?_);rw[aX ⋯]
 refine bh (Ke ez hh fun h4 tk k4=>?_);rw[aX ⋯]
 refine bh (Ae ?_);have I4:=I3.kept (t':=tk) k4;have S4:=S0.keep (h':=h4) fun c o e=>k4 _ _ (eF _ e)
 have fp4:∀c∈[z,TI,TO,i1,i2],gB X ae (upd H1 s2.heap.objs.size (.dK [])) c:=fun c hc=>by
  have lt:c<s2.heap.objs.size:=by
   obtain⟨st,p',l,r⟩:=S0;rcases st with⟨g,x,y,e⟩ | ⟨t',fl,g,⟨o,e⟩,n⟩
   ·simp only[bN,e_,or_false] at hc;rcases hc with rfl | rfl | rfl | rfl | rfl
    ·exact bV g
    ·exact bV p'
    ·exact bV e
    ·obtain⟨o,e,_⟩:=l; exact bV e
    ·obtain⟨o,e,_⟩:=r; exact bV e
   ·have g':s2.heap.get? z=some _:=g;have h'':s2.heap.get? z=some _:=hzz;rw[h''] at g';exact absurd g' (by intro w; cases w)
  exact⟨by rw[aJ (fG lt)]; exact(fp c hc).1,(fp c hc).2⟩
 refine bh (Ml (show IsZip h4 z TI TO .none from k4 _ _ ez) ?_);refine cH ⟨plainId_quiet ir _,codeAny_builtin qb ?_⟩;rw[Around.under_plainId ir _];refine Od (p:=s2.heap.objs.size) (ks:=ks) (ys:=ys) N hn hz ks.length 0 _ _ X.A.in1 [] _ ∅ (gU _) hh I4 aB (gU _) (sm _ _ hla) (sm _ _ hlb) S4 fp4 fun s' J=>?_
 rw[wR] at J;exact⟨rfl,.ref s2.heap.objs.size,_,J,rfl,q _ _ hf (aP hf _) aB⟩
end
structure Lh(K:Frag)(x qual:Str)(st:Stmt)(f:Addr)(fd:FuncData)(T:Addr):Prop where
 ex:∃(oc:AA)(od:Option Addr)(kV doc pm:AA)(an:Option Addr)(cdv ct:AA)(osl:Array (Option AA)),
  fd=fnOf x qual (cJ st) (b8 st) (aK st) (.ref T) kV doc pm an cdv ct/\K.lookup f=some ⟨oc,od,.func fd,osl⟩/\codeIn K cdv qual=true
 kp:keepIn K (.ref f)=true
 df:∃o n,K.lookup T=some o/\o.data=.seq #[.none] n
section
variable{P:AC}{w:World}{K:Frag}{mg:Str->Option AA}{base:Heap}
theorem Lh.okE{x qual:Str}{st:Stmt}{f T:Addr}{fd:FuncData}{N ps:List Str}{k:Nat}{sp:Sp}(F:Lh K x qual st f fd T)(S:bf N ps (aK st))(len: autoParam (∀vs H Q E,sp vs H Q E->vs.length=ps.length) zg._auto_1)
  (hbody:∀(cdv:AA)(A:Around)(outer:List Env)(s:AB)(H:Hp)(vs:List V)(Q:VK)(E:XK),lJ P w H s.heap->fU k (A.deeper (envOfC qual (aK st) s.heap.objs.size f cdv))->sp vs H Q E ->
   ∃t,Dw (iC (nZ P w) P w K mg base N qual (aK st) f cdv A outer s H E) (b8 st) t/\t { nx:=fun _ H'=>Q .non H',rt:=Q } (start N vs) H):bI P w K mg base (nZ P w) (k+1) f fd ps sp:=by
 obtain⟨oc,od,kV,doc,pm,an,cdv,ct,osl,rfl,lk,hcd⟩:=F.ex;exact T7 lk hcd S len fun A outer s H vs Q E U3 hr hsp=>hbody cdv A outer s H vs Q E U3 hr hsp
theorem Lh.binds{x qual:Str}{st:Stmt}{f T:Addr}{fd:FuncData}{ps:List Str}{ds:List AA}(F:Lh K x qual st f fd T)
  (h:∀(kV doc pm:AA)(an:Option Addr)(cdv ct:AA)(us:List AA),(us++ds).length=ps.length->∃k,bindArgs (fnOf x qual (cJ st) (b8 st) (aK st) (.ref T) kV doc pm an cdv ct) ⟨us,[]⟩=seqItems? (.ref T) >>= k/\k (some #[.none])=pure (ps.zip (us++ds))):Binds K fd ps ds:=by
 obtain⟨oc,od,kV,doc,pm,an,cdv,ct,osl,rfl,lk,hcd⟩:=F.ex;obtain⟨o,n,ho,hd⟩:=F.df;intro s us KX hl;obtain⟨k,h1,h2⟩:=h kV doc pm an cdv ct us hl;exact BindsTo.of_defaults rfl (KX _ _ ho) hd h1 h2
structure zY(P:AC)(w:World)(K:Frag)(mg:Str->Option AA)(base:Heap)(k:Nat)(C:Addr)(m:Str)(ps:List Str)(sp:Sp) where
 f:Addr
 fd:FuncData
 G:bI P w K mg base gQ k f fd ps sp
 M:Meth K C m f
 c:Gh K C
 b:Binds K fd ps []
structure Je(P:AC)(w:World)(K:Frag)(mg:Str->Option AA)(base:Heap)(k:Nat)(C:Addr)(m:Str)(ps:List Str)(sp:Sp) where
 f:Addr
 fd:FuncData
 G:bI P w K mg base (nZ P w) k f fd ps sp
 M:Meth K C m f
 c:Gh K C
 b:Binds K fd ps []
structure CtK(P:AC)(w:World)(K:Frag)(mg:Str->Option AA)(base:Heap)(k:Nat)(C:Addr)(x:Str)(ps:List Str)(sp:Sp) where
 f:Addr
 fd:FuncData
 j:Nat
 hj:j+1<=k
 G:bI P w K mg base gQ j f fd ps sp
 M:Mk K C f
 b:Binds K fd ps []
 bd:Binds K fd ps [.none]
 m:mg x=some (.ref C)
structure aaX(P:AC)(w:World)(K:Frag)(mg:Str->Option AA)(base:Heap)(k:Nat)(C:Addr)(x:Str)(ps:List Str)(sp:Sp) where
 f:Addr
 fd:FuncData
 j:Nat
 hj:j+1<=k
 G:bI P w K mg base (nZ P w) j f fd ps sp
 M:Mk K C f
 b:Binds K fd ps []
 bd:Binds K fd ps [.none]
 m:mg x=some (.ref C)
theorem bI.calm{k:Nat}{f:Addr}{fd:FuncData}{ps:List Str}{sp:Sp}(G:bI P w K mg base (nZ P w) k f fd ps sp):bI P w K mg base gQ k f fd ps (fun vs H Q _=>sp vs H Q E0):=
 ⟨fun vs H Q E h=>G.len _ _ _ _ h,fun A outer s H args us vs Q E hr he hb hv h=>codeAny_mono (G.run A outer s H args us vs Q E0 hr he hb hv h) fun r s' z=>by
  cases r with
  | error e=>
   obtain⟨_,_,_,_,_,_,_,_,_,_,_,_,_,q⟩:=z;exact q.elim
  | ok fl=>cases fl <;> exact z⟩
def zY.mono{j k:Nat}{C:Addr}{m:Str}{ps:List Str}{sp:Sp}(c:zY P w K mg base j C m ps sp)(h:j<=k):zY P w K mg base k C m ps sp:={ c with G:=c.G.mono h }
def Je.mono{j k:Nat}{C:Addr}{m:Str}{ps:List Str}{sp:Sp}(c:Je P w K mg base j C m ps sp)(h:j<=k):Je P w K mg base k C m ps sp:={ c with G:=c.G.mono h }
def CtK.mono{j k:Nat}{C:Addr}{m:Str}{ps:List Str}{sp:Sp}(c:CtK P w K mg base j C m ps sp)(h:j<=k):CtK P w K mg base k C m ps sp:={ c with hj:=lW c.hj h }
def Je.calm{k:Nat}{C:Addr}{m:Str}{ps:List Str}{sp:Sp}(c:Je P w K mg base k C m ps sp):zY P w K mg base k C m ps (fun vs H Q _=>sp vs H Q E0):=⟨c.f,c.fd,c.G.calm,c.M,c.c,c.b⟩
def aaX.calm{k:Nat}{C:Addr}{m:Str}{ps:List Str}{sp:Sp}(c:aaX P w K mg base k C m ps sp):CtK P w K mg base k C m ps (fun vs H Q _=>sp vs H Q E0):=⟨c.f,c.fd,c.j,c.hj,c.G.calm,c.M,c.b,c.bd,c.m⟩
def Vb.alias{k:Nat}{x y:Str}{ps:List Str}{i:Int}{sp:Sp}(c:Vb P w K mg base k x ps i sp)(h:mg y=some (.ref c.f)):Vb P w K mg base k y ps i sp:=⟨c.f,c.fd,c.t,c.G,c.kp,c.b,c.bd,h⟩
end
section
variable{X:Cx}{C:Addr}{m x:Str}{apos pos p:Pos}{o e:Expr}{es:List Expr}{ta:TE}{t:TA}{k:Nat}{ps:List Str}{sp:Sp}
theorem pm(c:zY X.prog X.w X.K X.mg X.base k C m ps sp)(hr:fU k X.A)(ho:PE X o ta)(ha:PA X (e::es) t)(h1: ~~~(b7 e=true))(h2: ~~~(es.all b7=true)){pl:Sem Bool}
  (ht: ~~~(eval (.Call (.Attribute o m apos) (e::es) [] pos) X.env=(do
   let ov <- eval o X.env
   standAt apos.atName
   let (f,first) <- holding [ov] (getMethod ov m pl)
   callWith pos f first (backTo pos (starEach (e::es) X.env)) (backToKw pos (keywordEach [] X.env))))):PE X (.Call (.Attribute o m apos) (e::es) [] pos) (Gr C m sp [] E0 ta t):=
 Wd ho c.c c.M c.G hr c.b .nil Hx ha (cC h1) (cL h2) ht
theorem pm0(c:zY X.prog X.w X.K X.mg X.base k C m ps sp)(hr:fU k X.A)(ho:PE X o ta){pl:Sem Bool}
  (ht: ~~~(eval (.Call (.Attribute o m apos) [] [] pos) X.env=(do
   let ov <- eval o X.env
   standAt apos.atName
   let (f,first) <- holding [ov] (getMethod ov m pl)
   callWith pos f first (backTo pos (starEach [] X.env)) (backToKw pos (keywordEach [] X.env))))):PE X (.Call (.Attribute o m apos) [] [] pos) (Gr C m sp [] E0 ta Gq):=
 R9 ho c.c c.M c.G hr c.b .nil Hx ht
theorem pk(c:CtK X.prog X.w X.K X.mg X.base k C x ps sp)(hr:fU k X.A)(ha:PA X (e::es) t)(hg: ~~~(Gl X x))(hdb:((x==("__debug__" : Str))=false)⁻¹)(h1: ~~~(b7 e=true))(h2: ~~~(es.all b7=true)) :
  PE X (.Call (.Name x p) (e::es) [] pos) (Rf C sp [] E0 t):=Wf c.M c.G (hr.mono c.hj) hg c.m c.b .nil Hx ha hdb (cC h1) (cL h2)
theorem cD{K:Frag}{f:Str}(hK:X.K=K)(he:PE X e ta)(hb: ~~~(attributeBase e f X.env (eval e X.env)=eval e X.env)):PE X (.Attribute e f pos) (Za K ta f):=by
 subst hK;exact ZV he hb
theorem m_{K:Frag}{f:Str}{value:Expr}{pos':Pos}{tv:TE}(hK:X.K=K)(ha:PE X o ta)(hv:PE X value tv)(hs: ~~~(swapsWith value (some (.Attribute o f pos')) pos.line X.env=pure false)):PS X (.Assign [.Attribute o f pos'] value pos) (Zt K ta tv f):=by
 subst hK;exact ZD ha hv hs
end
section
variable{P:AC}{w:World}{K:Frag}{mg:Str->Option AA}{base:Heap}{N:List Str}{qual:Str}{scope:Scope}{f:Addr}{cd:AA}{A:Around}{outer:List Env}{s0:AB}{H0:Hp}{E:XK}
def Y_(C:Addr)(m:Str)(sp:Sp)(E:XK)(ta:TE)(t:TA):TE:=fun σ H Q=>ta σ H fun x H1=>∃a dx fs,x=.ref a/\H1 a=some (.ins C dx fs)/\fs.lookup m=none/\t σ H1 fun vs H2=>sp (.ref a::vs) H2 Q (fun cls _ H3=>∀H4,(aL H2 H3->aL H2 H4)->E cls none H4)
end
def Xo(C:Addr)(m:Str)(sp:Sp)(ta:TE)(t:TA):TX:=fun σ H Q EE=>ta σ H fun x H1=>∃a dx fs,x=.ref a/\H1 a=some (.ins C dx fs)/\fs.lookup m=none/\t σ H1 fun vs H2=>sp (.ref a::vs) H2 Q (fun cls _ H3=>EE cls H2 H3)
section
variable{X:Cx}
theorem afd{k:Nat}{C:Addr}{m:Str}{apos pos:Pos}{o e:Expr}{es:List Expr}{ps:List Str}{sp:Sp}{ta:TE}{t:TA}(c:Je X.prog X.w X.K X.mg X.base k C m ps sp)(hr:fU k X.A)(ho:PE X o ta)(ha:PA X (e::es) t)
  (hn: autoParam (∀e s,X.xe e s->False) zi._auto_1) (h1: ~~~(b7 e=true)) (h2: ~~~(es.all b7=true)) {pl:Sem Bool}
  (ht: ~~~(eval (.Call (.Attribute o m apos) (e::es) [] pos) X.env=(do
   let ov <- eval o X.env
   standAt apos.atName
   let (g,first) <- holding [ov] (getMethod ov m pl)
   callWith pos g first (backTo pos (starEach (e::es) X.env)) (backToKw pos (keywordEach [] X.env))))) :
  PX X (.Call (.Attribute o m apos) (e::es) [] pos) (Xo C m sp ta t):=by
 symm;intro Q EE I h;refine methodCall_KW (pl:=pl) (jW (ho ae s σ H _ I h) (fun u s1 qx=>?_) fun _ _ z=>(hn _ _ z).elim) ht;obtain⟨x,H1,I1,rx,a,dx,fs,ex,ea,l,q⟩:=qx;subst ex;obtain rfl:u=Value.ref a:=rx;refine rN I1 ea c.c c.M l ?_;refine callWith_K (first:=[.ref a]) (h₀:=X.base) I.ok.mod.Tc c.M.kp (jW (ha pos ae s1 σ H1 _ I1 q) (fun us s2 qx=>?_) fun _ _ z=>(hn _ _ z).elim) (cC h1) (cL h2)
 obtain⟨vs,H2,I2,r,q2⟩:=qx;refine⟨I2.mL,?_⟩;have hl2:(Value.ref a::us).length=ps.length:=by rw[fH,<- r.length,<- fH (a:=V.ref a)]; exact c.G.len _ _ _ _ q2
 have hb:=c.b s2 (Value.ref a::us) I2.mL (by rw[q_]; exact hl2)
 rw[q_] at hb;refine wpAny_call (codeAny_mono (c.G.run _ _ s2 H2 ⟨Value.ref a::us,[]⟩ (Value.ref a::us) (V.ref a::vs) _ _ hr I2.env0 hb (.cons rfl r) q2) fun r s' z=>?_);cases r with
 | error e'=>exact⟨H2,s2,fun cls _ H3=>EE cls H2 H3,I2,z,fun cls H3 y=>y⟩
 | ok fl=>
  cases fl with
  | ret u=>
   obtain⟨v,H3,I3,rv3,q3⟩:=I2.after z;exact⟨v,H3,I3,rv3,q3⟩
  | next=>exact False.elim z
  | brk=>exact False.elim z
  | cont=>exact False.elim z
end
section
variable{prog:AC}{w:World}{A:Around}{E:AA->AB->Prop}{s:AB}
end
section
variable{X:Cx}{ae:LA}{σ:St}{H1:Hp}{s1 s':AB}
end
theorem Z0{X:Cx}{K:Frag}(hK:X.K=K):ou X (compareOp .In) (rIn K false):=by
 subst hK;exact O8
theorem O6{X:Cx}{K:Frag}(hK:X.K=K):ou X (compareOp .NotIn) (rIn K true):=by
 subst hK;exact En
theorem Dh(ns:List Str):(ns.map V.str).all tZ=true:=by
 rw[List.all_map];exact qw.mpr fun _ _=>rfl
theorem Nq(n:Str)(ns:List Str):inV (.str n) (ns.map V.str)=decide (n∈ns):=by
 unfold inV;rw[List.any_map]
 induction ns with
 | nil=>rfl
 | cons a r ih=>
  rw[yz,ih];by_cases h:n=a
  ·subst h;simp[U5]
  ·have:¬a=n:=fun z=>h z.symm;simp[U5,h,this]
def dH(H H':Hp):Prop:=∀b xs,H b=some (.tup xs)->H' b=some (.tup xs)
theorem dH.trans{H H1 H2:Hp}(a:dH H H1)(b:dH H1 H2):dH H H2:=fun c xs z=>b c xs (a c xs z)
theorem aL.kp{H H':Hp}(s:aL H H'):dH H H':=fun b _ z=>s b _ z
theorem dH.put{H:Hp}{p:Addr}{o:HO}(n:∀xs,H p≠some (.tup xs)):dH H (upd H p o):=fun b xs z=>by
 by_cases e:b=p
 ·subst e; exact absurd z (n xs)
 ·rw[aJ e]; exact z
theorem dH.putL{H:Hp}{p:Addr}{o:HO}{xs:List V}(n:H p=some (.lst xs)):dH H (upd H p o):=dH.put fun ys z=>by rw[n] at z; cases z
theorem dH.putD{H:Hp}{p:Addr}{o:HO}{xs:List (Key×V)}(n:H p=some (.dK xs)):dH H (upd H p o):=dH.put fun ys z=>by rw[n] at z; cases z
mutual
theorem At.kp{H H':Hp}(m:dH H H'):∀(d:PyData)(v:V),uy d=true->At H d v->At H' d v
 | .none,_,_,h=>by unfold At at h ⊢; exact h
 | .bool _,_,_,h=>by unfold At at h ⊢; exact h
 | .int _,_,_,h=>by unfold At at h ⊢; exact h
 | .str _,_,_,h=>by unfold At at h ⊢; exact h
 | .tuple ds,v,n,h=>by
  unfold At at h ⊢;obtain⟨a,ys,e,h1,h2⟩:=h;exact⟨a,ys,e,m _ _ h1,aj.kp m ds ys (by simpa[uy] using n) h2⟩
 | .list _,_,n,_=>by simp[uy] at n
 | .dict _,_,n,_=>by simp[uy] at n
theorem aj.kp{H H':Hp}(m:dH H H'):∀(ds:List PyData)(ys:List V),bH ds=true->aj H ds ys->aj H' ds ys
 | [],_,_,h=>by unfold aj at h ⊢; exact h
 | d::ds,ys,n,h=>by
  unfold aj at h ⊢;obtain⟨x,r,e,h1,h2⟩:=h;simp only[bH,GP] at n;exact⟨x,r,e,At.kp m d x n.1 h1,aj.kp m ds r n.2 h2⟩
end
theorem aj.nth{H:Hp}:∀{ds:List PyData}{ys:List V}{i:Nat}{d:PyData},aj H ds ys->ds[i]?=some d->∃y,ys[i]?=some y/\At H d y
 | [],_,_,_,_,e=>by cases e
 | d::ds,ys,i,d',h,e=>by
  unfold aj at h;obtain⟨x,r,rfl,h1,h2⟩:=h;cases i with
  | zero=>cases e; exact⟨x,rfl,h1⟩
  | succ i=>exact aj.nth (ds:=ds) (ys:=r) (i:=i) h2 e
theorem aj.snoc{H:Hp}{ds:List PyData}{ys:List V}{d:PyData}{y:V}(h:aj H ds ys)(a:At H d y):aj H (ds++[d]) (ys++[y]):=aj.append h (aj.cons a aj.nil)
def Fr(S:List Addr)(H H':Hp):Prop:=∀b o,H b=some o->b∉S->H' b=some o
theorem Fr.refl(S:List Addr)(H:Hp):Fr S H H:=fun _ _ z _=>z
theorem aL.fr{H H':Hp}(s:aL H H')(S:List Addr):Fr S H H':=fun b o z _=>s b o z
theorem Fr.trans{S:List Addr}{H H1 H2:Hp}(a:Fr S H H1)(b:Fr S H1 H2):Fr S H H2:=fun c o z n=>b c o (a c o z n) n
theorem Fr.sub{S T:List Addr}{H H':Hp}(a:Fr S H H')(h:∀b∈S,b∈T\/H b=none):Fr T H H':=fun b o z n=>a b o z fun hb=>(h b hb).elim n fun e=>by rw[e] at z; cases z
theorem Fr.put{S:List Addr}{H:Hp}{p:Addr}{o:HO}(h:p∈S):Fr S H (upd H p o):=fun b u z n=>by
 have e:b≠p:=fun e=>n (by rw[e]; exact h)
 rw[aJ e]; exact z
theorem Fr.kp{S:List Addr}{H H':Hp}(a:Fr S H H')(n:∀b∈S,∀xs,H b≠some (.tup xs)):dH H H':=fun b xs z=>a b _ z fun hb=>n b hb xs z
def zK(ns:List Str)(vs:List V):List (Key×V):=(ns.map Sum.inr).zip vs
theorem Jl{ns:List Str}{vs:List V}(h:ns.length=vs.length):(zK ns vs).length=ns.length:=by unfold zK; rw[List.length_zip,bW]; omega
theorem QW:∀{ns:List Str}{vs:List V}{i:Nat}{n:Str},ns.Nodup->ns[i]?=some n->ns.length=vs.length->iz (zK ns vs) (Sum.inr n:Key)=vs[i]?
 | [],_,_,_,_,h,_=>by cases h
 | a::ns,[],_,_,_,_,h=>by cases h
 | a::ns,v::vs,0,n,_,h,_=>by
  cases h;exact fC rfl
 | a::ns,v::vs,i+1,n,nd,h,l=>by
  have hn:a≠n:=fun z=>by
   subst z;exact(jY.mp nd).1 (dz h)
  show iz ((Sum.inr a,v)::zK ns vs) (Sum.inr n:Key)=_;unfold iz;rw[List.find?_cons_of_neg (by simpa using hn)]
  exact QW (jY.mp nd).2 h (Nat.succ.inj l)
theorem Jm:∀{ns:List Str}{vs:List V}{n:Str},ns.length=vs.length->((zK ns vs).any fun kv=>decide (kv.1=(Sum.inr n:Key)))=decide (n∈ns)
 | [],_,_,_=>by simp[zK]
 | a::ns,[],_,h=>by cases h
 | a::ns,v::vs,n,l=>by
  show(((Sum.inr a,v)::zK ns vs).any _)=_;rw[yz,Jm (Nat.succ.inj l)];by_cases h:n=a
  ·subst h; simp
  ·have:¬a=n:=fun z=>h z.symm;simp[h,this]
theorem QZ:∀{ns:List Str}{vs:List V}{i:Nat}{n:Str}{u:V},ns.Nodup->ns[i]?=some n->ns.length=vs.length->((zK ns vs).map fun kv=>if kv.1=(Sum.inr n:Key) then(kv.1,u) else kv)=zK ns (vs.set i u)
 | [],_,_,_,_,_,h,_=>by cases h
 | a::ns,[],_,_,_,_,_,h=>by cases h
 | a::ns,v::vs,0,n,u,nd,h,l=>by
  cases h;show(((Sum.inr a,v)::zK ns vs).map _)=(Sum.inr a,u)::zK ns vs;rw[iI,aX rfl]
  congr 1
  have hn:=(jY.mp nd).1;rw[List.map_congr_left (g:=id),List.map_id];intro kv hkv;refine aQ fun z=>hn ?_;have:=Hn hkv;rw[z] at this;simpa using this.1
 | a::ns,v::vs,i+1,n,u,nd,h,l=>by
  have hn:a≠n:=fun z=>by
   subst z;exact(jY.mp nd).1 (dz h)
  show(((Sum.inr a,v)::zK ns vs).map _)=(Sum.inr a,v)::zK ns (vs.set i u);rw[iI,aQ (by simpa using hn),QZ (jY.mp nd).2 h (Nat.succ.inj l)]
theorem YS{ns:List Str}{vs:List V}{i:Nat}{n:Str}{u:V}(nd:ns.Nodup)(h:ns[i]?=some n)(l:ns.length=vs.length):putK (zK ns vs) (Sum.inr n:Key) u=zK ns (vs.set i u):=by
 unfold putK;rw[aX (by rw[Jm l]; exact jF (dz h)),QZ nd h l]
theorem QX{ns:List Str}{vs:List V}{n:Str}{u:V}(h:n∉ns)(l:ns.length=vs.length):putK (zK ns vs) (Sum.inr n:Key) u=zK (ns++[n]) (vs++[u]):=by
 unfold putK;rw[aQ (by rw[Jm l]; simpa using h)]
 unfold zK;rw[ig,List.zip_append (by rw[bW]; exact l)]
 rfl
theorem Gk:∀(ns:List Str)(vs:List V)(ms:List Str)(us:List V),(ms++ns).Nodup->ms.length=us.length->ns.length=vs.length->jZ (zK ms us) (zK ns vs)=zK (ms++ns) (us++vs)
 | [],vs,ms,us,_,_,l=>by
  cases vs with
  | nil=>rw[q_,q_]; rfl
  | cons=>cases l
 | a::ns,[],ms,us,_,_,l=>by cases l
 | a::ns,v::vs,ms,us,nd,h,l=>by
  have hn:a∉ms:=fun z=>by
   rw[tG] at nd;exact nd.2.2 a z a (iK ..) rfl
  show jZ (putK (zK ms us) (Sum.inr a) v) (zK ns vs)=_;rw[QX hn h,Gk ns vs (ms++[a]) (us++[v]) (by rw[GX]; exact nd) (by simp[h]) (Nat.succ.inj l),GX,GX]
  rfl
theorem jL.z{H:Hp}{a:Addr}{ns:List Str}{vs:List V}{i:Nat}{n:Str}{v:V}(e:H a=some (.dK (zK ns vs)))(nd:ns.Nodup)(h:ns[i]?=some n)(l:ns.length=vs.length)(hv:vs[i]?=some v):jL H a (.str n) (some v):=by
 have:=jL.k (k:=(Sum.inr n:Key)) e;rw[QW nd h l,hv] at this;exact this
theorem uw.z{H:Hp}{a:Addr}{ns:List Str}{vs:List V}{i:Nat}{n:Str}{v:V}(e:H a=some (.dK (zK ns vs)))(nd:ns.Nodup)(h:ns[i]?=some n)(l:ns.length=vs.length)(z:ns.length<=1000):uw H a (.str n) v (upd H a (.dK (zK ns (vs.set i v)))):=by
 have:=uw.k (k:=(Sum.inr n:Key)) (v:=v) e (a_ (by rw[Jl l]; exact z))
 rw[YS nd h l] at this;exact this
theorem Uc{K:Frag}{nt:Nat}{g:TG}{js:List Nat}{a:Addr}{xs:List V}{tl tk tv:TE}{σ:St}{H:Hp}{Q:VK}(τ:Nat->St)(hτ:∀i,(τ i).length=nt)(hl:∀R:VK,R (.ref a) H->tl σ H R)(ha:H a=some (.lst xs))
  (h:∀acc,H acc=none->∃Pv:Nat->List (Key×V)->Hp->Prop,Pv 0 [] (upd H acc (.dK []))/\(∀i ys H',Pv i ys H'->H' a=some (.lst xs)) /\
   (∀i x ys H',xs[i]?=some x->Pv i ys H'->(∀R:St->Hp->Prop,R (τ i++bR js σ) H'->g x (List.replicate nt none++bR js σ) H' R)/\tk (τ i++bR js σ) H' fun y H4=>tv (τ i++bR js σ) H4 fun v H5=>∃k,y=kV k/\H5 acc=some (.dK ys)/\ys.length<sizeLine/\Pv (i+1) (putK ys k v) (upd H5 acc (.dK (putK ys k v))))/\∀ys H',Pv xs.length ys H'->Q (.ref acc) H'):xG nt js (lE K tl) g tk tv σ H Q:=by
 refine hl _ ⟨a,rfl,⟨xs,cG.of ha⟩,fun acc hacc=>?_⟩;obtain⟨Pv,p0,pA,ps,pf⟩:=h acc hacc;refine⟨fun i m ys H2=>m=xs.length-i/\i<=xs.length/\Pv i ys H2,⟨_,rfl,gU _,p0⟩,?_⟩;rintro i m ys H2 ⟨rfl,hi,hP⟩;have ht:cG K H2 a xs:=cG.of (pA _ _ _ hP);by_cases hlt:i<xs.length
 ·refine .inr ⟨⟨xs,xs[i],ht,dC hlt⟩,fun x H3 y=>?_⟩;obtain⟨e1,y⟩:=y;subst e1;obtain⟨gg,tt⟩:=ps i x ys _ (y xs ht) hP;refine gg _ ⟨⟨?_,?_⟩,?_⟩
  ·rw[List.drop_append_of_le_length (by rw[hτ]; exact bJ _),<- hτ i,GQ,Hm]
  ·rw[dg,dg,hτ,uW]
  have e:(fun(y:V)(H4:Hp)=>tv (τ i++bR js σ) H4 fun v H5=>∃k,y=kV k/\H5 acc=some (.dK ys)/\ys.length<sizeLine/\Pv (i+1) (putK ys k v) (upd H5 acc (.dK (putK ys k v))))=fun y H4=>tv (τ i++bR js σ) H4 fun v H5=>∃k,y=kV k/\H5 acc=some (.dK ys)/\ys.length<sizeLine/\∃m',m'<xs.length-i/\(m'=xs.length-(i+1)/\i+1<=xs.length/\Pv (i+1) (putK ys k v) (upd H5 acc (.dK (putK ys k v)))):=by
   funext y H4
   congr 1
   funext v H5
   exact propext ⟨fun⟨k,z0,z1,z2,z3⟩=>⟨k,z0,z1,z2,xs.length-(i+1),∅,rfl,hlt,z3⟩,fun⟨k,z0,z1,z2,_,_,_,_,z3⟩=>⟨k,z0,z1,z2,z3⟩⟩
  rw[e] at tt;exact tt
 ·have e:i=xs.length:=by omega
  subst e;exact .inl ⟨⟨xs,ht,bJ _⟩,pf _ _ hP⟩
theorem cY{α:Type}{l:List α}{i:Nat}{x:α}(h:l[i]?=some x):l.take (i+1)=l.take i++[x]:=by
 rw[List.take_add_one,h]; rfl
theorem xf{K:Frag}{nt:Nat}{g:TG}{js:List Nat}{a:Addr}{xs:List V}{tl tk tv:TE}{σ:St}{H:Hp}{Q:VK}(ns:List Str)(ds:List PyData)(τ:Nat->St)(hτ:∀i,(τ i).length=nt)(hl:∀R:VK,R (.ref a) H->tl σ H R)(ha:H a=some (.lst xs))
  (nd:ns.Nodup) (ln:ns.length=xs.length) (ld:ds.length=xs.length) (hz:xs.length<=1000) (hn:bH ds=true)
  (step:∀i x n d H',xs[i]?=some x->ns[i]?=some n->ds[i]?=some d->aL H H'->(∀R:St->Hp->Prop,R (τ i++bR js σ) H'->g x (List.replicate nt none++bR js σ) H' R)/\(∀R:VK,R (.str n) H'->tk (τ i++bR js σ) H' R)/\∀R:VK,(∀v H5,aL H' H5->At H5 d v->R v H5)->tv (τ i++bR js σ) H' R)
  (fin:∀acc vs H',H acc=none->aL H H'->H' acc=some (.dK (zK ns vs))->aj H' ds vs->ns.length=vs.length->Q (.ref acc) H'):xG nt js (lE K tl) g tk tv σ H Q:=by
 refine Uc τ hτ hl ha fun acc hacc=>?_;refine⟨fun i ys H2=>∃vs,ys=zK (ns.take i) vs/\(ns.take i).length=vs.length/\aj H2 (ds.take i) vs/\aL H H2/\H2 acc=some (.dK ys),⟨[],rfl,rfl,aj.nil,aP hacc _,aB⟩,fun i ys H2 q=>?_,?_,?_⟩
 ·obtain⟨vs,_,_,_,s2,_⟩:=q;exact s2 _ _ ha
 ·rintro i x ys H2 hx ⟨vs,rfl,lv,av,s2,e2⟩;have hi:i<xs.length:=(iY.mp hx).1;have en:ns[i]?=some ns[i]:=dC ∅
  have ed:ds[i]?=some ds[i]:=dC ∅
  obtain⟨g1,g2,g3⟩:=step i x _ _ H2 hx en ed s2;refine⟨g1,g2 _ (g3 _ fun v H5 s5 a5=>⟨Sum.inr ns[i],rfl,s5 _ _ e2,a_ ?_,vs++[v],?_,?_,?_,?_,aB⟩)⟩
  ·rw[Jl lv,k_]; omega
  ·rw[cY en,QX _ lv];intro z;rw[<- List.take_append_drop i ns,tG] at nd;exact nd.2.2 _ z _ (by rw[Hf ∅]; exact iK ..) rfl
  ·rw[cY en,dg,dg,lv]; rfl
  ·rw[cY ed];have k5:dH H2 (upd H5 acc (.dK (putK (zK (ns.take i) vs) (Sum.inr ns[i]) v))):=s5.kp.trans (dH.putD (s5 _ _ e2));have hn':=bC.mp hn;exact(aj.kp k5 _ _ (bC.mpr fun d hd=>hn' d (wB hd)) av).snoc (At.kp (dH.putD (s5 _ _ e2)) _ _ (hn' _ (tE _)) a5)
  ·intro b o z;rw[aJ (fun e=>by rw[e,hacc] at z; cases z)]
   exact s5 _ _ (s2 _ _ z)
 ·rintro ys H2 ⟨vs,rfl,lv,av,s2,e2⟩;rw[show xs.length=ns.length from ln.symm,pH] at e2 lv;rw[show xs.length=ds.length from ld.symm,pH] at av;exact fin acc vs H2 hacc s2 e2 av lv
theorem qu{K:Frag}{nt:Nat}{g:TG}{js:List Nat}{a:Addr}{xs:List V}{tl te:TE}{σ:St}{H:Hp}{Q:VK}(ds:List PyData)(τ:Nat->St)(hτ:∀i,(τ i).length=nt)(hl:∀R:VK,R (.ref a) H->tl σ H R)(ha:H a=some (.lst xs))
  (ld:ds.length=xs.length) (hz:xs.length<=1000) (hn:bH ds=true)
  (step:∀i x d H',xs[i]?=some x->ds[i]?=some d->aL H H'->(∀R:St->Hp->Prop,R (τ i++bR js σ) H'->g x (List.replicate nt none++bR js σ) H' R)/\∀R:VK,(∀v H5,aL H' H5->At H5 d v->R v H5)->te (τ i++bR js σ) H' R)
  (fin:∀acc vs H',H acc=none->aL H H'->H' acc=some (.lst vs)->aj H' ds vs->Q (.ref acc) H'):fP nt js (lE K tl) g wj te σ H Q:=by
 refine Uh τ hτ hl ha fun acc hacc=>?_;refine⟨fun i ys H2=>ys.length=i/\aj H2 (ds.take i) ys/\aL H H2/\H2 acc=some (.lst ys),⟨rfl,aj.nil,aP hacc _,aB⟩,fun i ys H2 q=>q.2.2.1 _ _ ha,?_,?_⟩
 ·rintro i x ys H2 hx ⟨lv,av,s2,e2⟩;have hi:i<xs.length:=(iY.mp hx).1;have ed:ds[i]?=some ds[i]:=dC ∅
  obtain⟨g1,g3⟩:=step i x _ H2 hx ed s2;refine⟨g1,g3 _ fun v H5 s5 a5=>⟨s5 _ _ e2,a_ ∅,by rw[dg,lv]; rfl,?_,?_,aB⟩⟩
  ·rw[cY ed];have k5:dH H2 (upd H5 acc (.lst (ys++[v]))):=s5.kp.trans (dH.putL (s5 _ _ e2));have hn':=bC.mp hn;exact(aj.kp k5 _ _ (bC.mpr fun d hd=>hn' d (wB hd)) av).snoc (At.kp (dH.putL (s5 _ _ e2)) _ _ (hn' _ (tE _)) a5)
  ·intro b o z;rw[aJ (fun e=>by rw[e,hacc] at z; cases z)]
   exact s5 _ _ (s2 _ _ z)
 ·rintro ys H2 ⟨lv,av,s2,e2⟩;rw[show xs.length=ds.length from ld.symm,pH] at av;exact fin acc ys H2 hacc s2 e2 av
theorem lF{K:Frag}{js:List Nat}{a:Addr}{xs:List V}{tl te:TE}{σ:St}{H:Hp}{Q:VK}(ds:List PyData)(hl:∀R:VK,R (.ref a) H->tl σ H R)(ha:H a=some (.lst xs))
  (ld:ds.length=xs.length) (hz:xs.length<=1000) (hn:bH ds=true)
  (step:∀(i:Nat) x d H',xs[i]?=some x->ds[i]?=some d->aL H H'->∀R:VK,(∀v H5,aL H' H5->At H5 d v->R v H5)->te (some x::bR js σ) H' R)
  (fin:∀acc vs H',H acc=none->aL H H'->H' acc=some (.lst vs)->aj H' ds vs->Q (.ref acc) H'):iw js (lE K tl) te σ H Q:=by
 refine hl _ ⟨a,rfl,⟨xs,cG.of ha⟩,fun acc hacc=>?_⟩;refine⟨fun i m ys H2=>m=xs.length-i/\i<=xs.length/\ys.length=i/\aj H2 (ds.take i) ys/\aL H H2/\H2 acc=some (.lst ys),⟨_,rfl,gU _,rfl,aj.nil,aP hacc _,aB⟩,?_⟩;rintro i m ys H2 ⟨rfl,hi,lv,av,s2,e2⟩;have ht:cG K H2 a xs:=cG.of (s2 _ _ ha);by_cases hlt:i<xs.length
 ·refine .inr ⟨⟨xs,xs[i],ht,dC hlt⟩,fun x H3 y=>?_⟩;obtain⟨e1,y⟩:=y;subst e1;have ed:ds[i]?=some ds[i]:=dC ∅
  refine step i x _ _ (y xs ht) ed s2 _ fun v H5 s5 a5=>⟨s5 _ _ e2,a_ ∅,xs.length-(i+1),∅,rfl,hlt,by rw[dg,lv]; rfl,?_,?_,aB⟩
  ·rw[cY ed];have k5:dH H3 (upd H5 acc (.lst (ys++[v]))):=s5.kp.trans (dH.putL (s5 _ _ e2));have hn':=bC.mp hn;exact(aj.kp k5 _ _ (bC.mpr fun d hd=>hn' d (wB hd)) av).snoc (At.kp (dH.putL (s5 _ _ e2)) _ _ (hn' _ (tE _)) a5)
  ·intro b o z;rw[aJ (fun e=>by rw[e,hacc] at z; cases z)]
   exact s5 _ _ (s2 _ _ z)
 ·have e:i=xs.length:=by omega
  subst e;rw[show xs.length=ds.length from ld.symm,pH] at av;exact .inl ⟨⟨xs,ht,bJ _⟩,fin acc ys H2 hacc s2 e2 av⟩
theorem Xb{K:Frag}{js:List Nat}{d:Addr}{kvs:List (Key×V)}{tl te:TE}{σ:St}{H:Hp}{Q:VK}(ms:List Int)(hl:∀R:VK,R (.ref d) H->tl σ H R)(ha:H d=some (.dK kvs))(ld:ms.length=kvs.length)(hz:kvs.length<=1000)
  (step:∀(i:Nat) k x m H',kvs[i]?=some (k,x)->ms[i]?=some m->dH H H'->∀R:VK,(∀H5,aL H' H5->R (.int m) H5)->te (some x::bR js σ) H' R)
  (fin:∀acc H',H acc=none->aL H H'->H' acc=some (.lst (ms.map V.int))->Q (.ref acc) H'):Xu (iw js (Yk K tl) te) σ H Q:=by
 refine hl _ ⟨d,kvs,rfl,ha,fun o acc hacc=>?_⟩;have nd:acc≠d:=fun z=>by rw[z,aB] at hacc; cases hacc
 rw[aJ nd] at hacc;refine⟨fun i m ys H2=>m=kvs.length-i/\i<=kvs.length/\ys=(ms.take i).map V.int/\H2 acc=some (.lst ys)/\H2 d=some (.tW o (.dK kvs))/\∀b u,H b=some u->b≠d->H2 b=some u,⟨_,rfl,gU _,rfl,aB,by rw[aJ nd.symm,aB],fun b u z n=>by rw[aJ (fun e=>by rw[e,hacc] at z; cases z),aJ n]; exact z⟩,?_⟩
 rintro i m ys H2 ⟨rfl,hi,rfl,e2,f2,k2⟩;by_cases hlt:i<kvs.length
 ·refine .inr ⟨⟨f2,hlt⟩,fun x H3 y=>?_⟩;obtain⟨e1,k,hx⟩:=y;subst e1;have em:ms[i]?=some ms[i]:=dC ∅
  refine step i k x _ _ hx em (fun b xs z=>k2 b _ z fun e=>by rw[e,ha] at z; cases z) _ fun H5 s5=>⟨s5 _ _ e2,a_ (by rw[bW,k_]; omega),kvs.length-(i+1),∅,rfl,hlt,?_,aB,?_,?_⟩
  ·rw[cY em,ig]; rfl
  ·rw[aJ nd.symm]; exact s5 _ _ f2
  ·intro b u z n;rw[aJ (fun e=>by rw[e,hacc] at z; cases z)]
   exact s5 _ _ (k2 b u z n)
 ·have e:i=kvs.length:=by omega
  subst e;refine .inl ⟨⟨f2,bJ _⟩,d,kvs,o,ha,f2,?_⟩;refine fin acc _ hacc (fun b u z=>?_) (by rw[aJ nd,e2,<- ld,pH])
  by_cases e:b=d
  ·subst e; rw[aB,<- z,ha]
  ·rw[aJ e]; exact k2 b u z e
theorem HY{ns:List Str}(h:ns.Nodup){i j:Nat}{x:Str}(a:ns[i]?=some x)(b:ns[j]?=some x):i=j:=by
 obtain⟨ha,ea⟩:=iY.mp a;obtain⟨hb,eb⟩:=iY.mp b;rcases Nat.lt_trichotomy i j with c | c | c
 ·exact absurd (ea.trans eb.symm) (List.pairwise_iff_getElem.mp h i j ha hb c)
 ·exact c
 ·exact absurd (eb.trans ea.symm) (List.pairwise_iff_getElem.mp h j i hb ha c)
section
variable{X:Cx}
end
theorem Xf{K:Frag}{g:TG}{js:List Nat}{a:Addr}{xs:List V}{tl te:TE}{tc:TT}{σ:St}{H:Hp}{Q:VK}(ds:List (Option PyData))(hl:∀R:VK,R (.ref a) H->tl σ H R)(ha:H a=some (.lst xs))
  (ld:ds.length=xs.length) (hz:xs.length<=1000) (hn:∀d,some d∈ds->uy d=true)
  (step:∀(i:Nat) x o H',xs[i]?=some x->ds[i]?=some o->aL H H'->(∀R:St->Hp->Prop,R (some x::bR js σ) H'->g x (List.replicate 1 none++bR js σ) H' R)/\(∀R:Bool->Hp->Prop,(∀H5,aL H' H5->R o.isSome H5)->tc (some x::bR js σ) H' R) /\
   ∀d H4,o=some d->aL H' H4->∀R:VK,(∀v H5,aL H4 H5->At H5 d v->R v H5)->te (some x::bR js σ) H4 R)
  (fin:∀acc vs H',H acc=none->aL H H'->H' acc=some (.lst vs)->aj H' (ds.filterMap id) vs->Q (.ref acc) H'):fP 1 js (lE K tl) g tc te σ H Q:=by
 refine hl _ ⟨a,rfl,⟨xs,cG.of ha⟩,fun acc hacc=>?_⟩;refine⟨fun i m ys H2=>m=xs.length-i/\i<=xs.length/\ys.length<=i/\aj H2 ((ds.take i).filterMap id) ys/\aL H H2/\H2 acc=some (.lst ys),⟨_,rfl,gU _,bJ _,aj.nil,aP hacc _,aB⟩,?_⟩;rintro i m ys H2 ⟨rfl,hi,lv,av,s2,e2⟩;have ht:cG K H2 a xs:=cG.of (s2 _ _ ha);by_cases hlt:i<xs.length
 ·refine .inr ⟨⟨xs,xs[i],ht,dC hlt⟩,fun x H3 y=>?_⟩;obtain⟨e1,y⟩:=y;subst e1;have ed:ds[i]?=some ds[i]:=dC ∅
  obtain⟨g1,g2,g3⟩:=step i x _ _ (y xs ht) ed s2;refine g1 _ ⟨⟨rfl,rfl⟩,g2 _ fun H4 s4=>?_⟩;have kk:∀{G:Hp}{zs:List V},aL H3 G->dH H3 (upd G acc (.lst zs)):=fun s=>s.kp.trans (dH.putL (s _ _ e2))
  have hnn:bH ((ds.take i).filterMap id)=true:=bC.mpr fun d hd=>by
   obtain⟨o,ho,eo⟩:=List.mem_filterMap.mp hd;exact hn d (by cases eo; exact wB ho)
  cases eo:ds[i] with
  | none=>
   rw[aQ ⋯]
   refine⟨xs.length-(i+1),∅,rfl,hlt,∅,?_,s2.trans s4,s4 _ _ e2⟩
   rw[cY ed,List.filterMap_append,eo];simpa using av.mono s4
  | some d=>
   rw[aX (by rfl)]
   refine g3 d H4 eo s4 _ fun v H5 s5 a5=>⟨s5 _ _ (s4 _ _ e2),a_ ∅,xs.length-(i+1),∅,rfl,hlt,by rw[dg]; simp; omega,?_,?_,aB⟩
   ·rw[cY ed,List.filterMap_append,eo];exact(aj.kp (kk (s4.trans s5)) _ _ hnn av).snoc (At.kp (dH.putL (s5 _ _ (s4 _ _ e2))) _ _ (hn d (by rw[<- eo]; exact tE _)) a5)
   ·intro b o z;rw[aJ (fun e=>by rw[e,hacc] at z; cases z)]
    exact s5 _ _ (s4 _ _ (s2 _ _ z))
 ·have e:i=xs.length:=by omega
  subst e;rw[show xs.length=ds.length from ld.symm,pH] at av;exact .inl ⟨⟨xs,ht,bJ _⟩,fin acc ys H2 hacc s2 e2 av⟩
open SetTable (Probe runEnd leap turns bits)
def adv(m:Nat)(p:Probe):Probe:=
 if p.more>0 then { p with j:=p.j+1,more:=p.more-1 } else
 { p with j:=(leap m p.i p.perturb).1,more:=runEnd m (leap m p.i p.perturb).1-(leap m p.i p.perturb).1,i:=(leap m p.i p.perturb).1,perturb:=(leap m p.i p.perturb).2 }
def itr(m:Nat):Nat->Probe->Probe
 | 0,p=>p
 | n+1,p=>itr m n (adv m p)
structure WP(m:Nat)(p:Probe):Prop where
 i:p.i<=m
 j:p.j+p.more=runEnd m p.i
 q:p.perturb<2 ^ 64
 d:p.dummy=none
 ij:p.i<=p.j
def jmp(m i q:Nat):Probe:={ j:=i,more:=runEnd m i-i,i:=i,perturb:=q,dummy:=none }
def adw(xs:Array Nat):Prop:=∀(a b x y:Nat),xs[a]?=some x->xs[b]?=some y->a<b->x<y
end _L
namespace _L
open PySem PySem.Spec PyProof.Rows
open SetTable (Probe runEnd leap turns bits)
def way(m:Nat)(h:Int)(n:Nat):Nat:=(itr m n (jmp m (bits h % (m+1)) (bits h))).j
def Path(m:Nat)(occ:Nat->Prop)(h:Int)(j:Nat):Prop:=∃n,way m h n=j/\∀n',n'<n->occ (way m h n')
structure TbI(t:SetTable)(hs:List Int):Prop where
 dm:t.dummies = #[]
 ri:adw t.place
 sz:t.place.size=hs.length
 le:∀i j:Nat,t.place[i]?=some j->j<=t.mask
 pw:∃k,3<=k/\k<=12/\t.mask+1=2 ^ k
 fl:5*hs.length<3*t.mask
 pa:∀(i:Nat)(h:Int)(j:Nat),hs[i]?=some h->t.place[i]?=some j->Path t.mask (fun y=>∃i:Nat,t.place[i]?=some y) h j
structure TbJ(t:SetTable)(hs:List Int):Prop where
 dm:t.dummies = #[]
 ri:adw t.place
 sz:t.place.size=hs.length
 le:∀i j:Nat,t.place[i]?=some j->j<=t.mask
 pw:∃k,3<=k/\k<=12/\t.mask+1=2 ^ k
 fl:hs.length<=t.mask
 pa:∀(i:Nat)(h:Int)(j:Nat),hs[i]?=some h->t.place[i]?=some j->Path t.mask (fun y=>∃i:Nat,t.place[i]?=some y) h j
end _L
namespace _L
open PySem PySem.Spec PyProof.Rows
open SetTable (Probe runEnd leap turns bits)
structure OW(m:Nat)(ow:Array (Option Nat))(hs:List Int):Prop where
 sz:ow.size=m+1
 ct:ow.toList.countP Option.isSome=hs.length
 at_:∀(l:Nat)(h:Int),hs[l]?=some h->∃j,j<=m/\ow[j]?=some (some l)/\Path m (fun y=>∃l,ow[y]?=some (some l)) h j
 lt:∀j l:Nat,ow[j]?=some (some l)->l<hs.length
 inj:∀j j' l:Nat,ow[j]?=some (some l)->ow[j']?=some (some l)->j=j'
theorem getD_none{ow:Array (Option Nat)}{j:Nat}(h:ow.getD j (some 0)=none):ow[j]?=some none:=by
 rw[Array.getD_eq_getD_getElem?] at h;cases e:ow[j]? with
 | none=>rw[e] at h; cases h
 | some o=>rw[e] at h; exact m8 some h
end _L
namespace _L
open PySem PySem.Spec PyProof.Rows
open SetTable (Probe runEnd leap turns bits)
section
variable{prog:AC}{w:World}{A:Around}{E:AA->AB->Prop}{s:AB}
def skE(x:PyData×Addr):Int×AA:=(TF x.1,.ref x.2)
structure SkI(h:Heap)(a:Addr)(o:Obj)(es:Array (Int×AA))(ep:Nat)(t:SetTable)(xs:List (PyData×Addr)):Prop where
 get:h.get? a=some o
 ex:o.ExactSet
 dt:o.data=.set es ep t
 es:es.toList=xs.map skE
 ti:TbI t (xs.map fun x=>TF x.1)
 nd:(xs.map (·.1)).Nodup
end
end _L
namespace _L
open PySem PySem.Spec PyProof.Rows
open SetTable (Probe runEnd leap turns bits)
section
variable{prog:AC}{w:World}{A:Around}{E:AA->AB->Prop}{s:AB}
end
section
variable{X:Cx}{ae:LA}{σ:St}{H:Hp}{s:AB}{a:Addr}{ks:List PyData}
end
end _L
namespace _L
open PySem PySem.Spec PyProof.Rows
section
variable{X:Cx}{ae:LA}{σ:St}{H:Hp}{s:AB}{a:Addr}{ks:List PyData}
end
section
variable{X:Cx}
end
def gZ(acc kvs:List (Key×V)):List (Key×V):=kvs.foldl (fun a p=>putK a p.1 p.2) acc
structure Ld(H:Hp)(xs:List V)(kvs:List (Key×V)):Prop where
 n:xs.length=kvs.length
 p:∀(i:Nat)(x:V)(q:Key×V),xs[i]?=some x->kvs[i]?=some q->∃t,x=.ref t/\H t=some (.tup [kV q.1,q.2])
section
variable{X:Cx}{ae:LA}{σ:St}
theorem Oh{p it l:Addr}{xs:List V}{kvs:List (Key×V)}:∀(k i:Nat)(H:Hp)(s:AB)(A:Around)(acc:List (Key×V))(R:Result->AB->Prop),xs.length-i=k->i<=xs.length->xs.length<=1000->A.handled=none->A.units+61<cLine->Inv X ae σ H s->H p=some (.dK acc)->acc.length<=i->H l=some (.lst xs)->Ld H xs kvs->s.heap.IsListIter it l i->gB X ae H it ->
  (∀H' s',Inv X ae σ H' s'->H'=upd H p (.dK (gZ acc (kvs.drop i)))->R (.ok (.ret .none)) s') ->
  wpAny (model X.prog X.w) A.in1 (Builtin.«dict.update.loop» ⟨[.ref p,.ref it,rawInt i,.none],[]⟩) (fun fin s'=>match fin with | .done f=>R (.ok f) s' | .again c'=>c'.quiet=true/\codeAny (model X.prog X.w) A c' R s') (fun e s'=>R (.error e) s') s:=by
 intro k
 induction k with
 | zero=>
  intro i H s A acc R hk hi hz hh hu I n hacc hl P hit fp q;have ei:i=xs.length:=by omega
  obtain⟨_,its,m,r,e⟩:=I.hok l _ hl;have hL:s.heap.IsList l its.toArray:=⟨_,e,rfl,_,rfl⟩;have hx:its.toArray[i]?=none:=by rw[List.getElem?_toArray,List.getElem?_eq_none_iff,<- r.length]; omega
  unfold Builtin.«dict.update.loop»;refine bh (wpAny_pyNext_list_end hh hit hL hx fun h' ex=>?_);dsimp only;unfold Builtin.Dict.addKeywords
  wp_walk
  have I':Inv X ae σ H { s with heap:=h' }:=I.turned (it:=it) (t':=s.toks) (fun b o nb eb=>ex b o nb eb) fp.1 fp.2.1 fp.2.2.2.1 fp.2.2.2.2.1 fp.2.2.2.2.2
  refine q H _ I' ?_;rw[ei,P.n,GQ]
  funext b
  by_cases z:b=p
  ·rw[z,aB,n]; rfl
  ·rw[aJ z]
 | succ k ih=>
  intro i H s A acc R hk hi hz hh hu I n hacc hl P hit fp q;obtain⟨_,its,m,r,e⟩:=I.hok l _ hl;have hL:s.heap.IsList l its.toArray:=⟨_,e,rfl,_,rfl⟩;have hxl:i<xs.length:=by omega
  obtain⟨u,hu1,ru⟩:=Q4 r (dC hxl);have hkl:i<kvs.length:=by rw[<- P.n]; exact hxl
  have hdr:kvs.drop i=kvs[i]::kvs.drop (i+1):=Hf hkl;obtain⟨t,et,ht⟩:=P.p i _ _ (dC hxl) (dC hkl);generalize kvs[i]=kq at hdr ht;rw[et] at ru;cases ru;unfold Builtin.«dict.update.loop»;refine bh (RW hit hL (by rw[List.getElem?_toArray]; exact hu1) fun h' hit' sb=>?_)
  have I':Inv X ae σ H { s with heap:=h' }:=I.turned (it:=it) (t':=s.toks) (fun b o nb eb=>(sb.2 b nb).trans eb) fp.1 fp.2.1 fp.2.2.2.1 fp.2.2.2.2.1 fp.2.2.2.2.2
  obtain⟨_,ts,rt,⟨cls,dd,data,sl⟩,e1,hc,m1,hd⟩:=I'.hok t _ ht;simp only at hc hd;subst hc hd;obtain⟨w0,w1,rfl,r0,r1⟩:=rt.two;dsimp only;have hT:({ s with heap:=h' }:AB).TypeIs (.ref t) "tuple" := ⟨_,e1,rfl⟩
  refine bh (jX ?_);unfold Builtin.Dict.pairItems;refine bh (JM (bh (yx hT ?_)));rw[aX ⋯]
  refine bh (qZ e1 rfl (cH ?_));obtain⟨z,hd,vs,rel,Xa⟩:=Ik I'.hok n;have hz':vs.length<=sizeLine:=by rw[<- rel.length]; exact z
  have hlp:=iy acc kq.1 kq.2;refine jX (wpAny_dictSet_pairs (hsz:=hz') (zb (P:=X.prog) (w:=X.w) r0) Xa fun h2 dd2 hs=>?_);have he:∃q,h2.get? p=some q:=let ⟨q,_,_,hq,_⟩:=dd2; ⟨q,hq⟩;have I2:=qp (ob:=.dK (putK acc kq.1 kq.2)) (t':=s.toks+1) I' (by rw[n]; exact True.intro) hs he (Fo (jE (a_ ∅)) hd (rel.put kq.1 r1) dd2)
  have npH:∀c,H c=none->c≠p:=fun c hc z=>by rw[z,n] at hc; cases hc
  have nit:=npH it fp.1
  have tup:∀c zs,H c=some (.tup zs)->upd H p (.dK (putK acc kq.1 kq.2)) c=some (.tup zs):=fun c zs hc=>by
   rw[aJ (fun z=>by rw[z,n] at hc; cases hc)]; exact hc
  refine cH ⟨plainId_quiet ir _,codeAny_builtin qb ?_⟩
  ·rw[Around.under_plainId ir _];refine ih (i+1) _ _ A (putK acc kq.1 kq.2) R ∅ ∅ hz hh hu I2 aB ?_ ?_ ⟨P.n,fun j x q' h1 h2=>?_⟩ ?_ ⟨?_,fp.2⟩ ?_
   ·omega
   ·rw[aJ (fun z=>by rw[z,n] at hl; cases hl)]; exact hl
   ·obtain⟨t2,a1,a2⟩:=P.p j x q' h1 h2;exact⟨t2,a1,tup _ _ a2⟩
   ·exact Heap.IsListIter.at hit' fun o eo=>(hs.2 _ nit).trans eo
   ·rw[aJ nit]; exact fp.1
   ·rintro H' s' J1 rfl;refine q _ s' J1 ?_;rw[hdr,wR]; rfl
end
section
variable{X:Cx}
theorem KD(hu:X.A.units+64<cLine)(hc:X.calm=true):dG X (.type "dict") (fun vs H Q=>∃(l:Addr)(xs:List V)(kvs:List (Key×V)),vs=[.ref l]/\H l=some (.lst xs)/\xs.length<=1000/\Ld H xs kvs/\∀p,H p=none->Q (.ref p) (upd H p (.dK (gZ [] kvs)))):=by
 symm;intro vs us Q I rv h;obtain⟨l,xs,kvs,rfl,hl,hz,P,q⟩:=h;obtain⟨u,rfl,ru⟩:=rv.one;cases ru;have hh:X.A.handled=none:=I.ok.hd hc;have hf:=I.hok.fresh (bJ s.heap.objs.size);have I1:=I.laid (a:=s.heap.objs.size) (o:=.dK []) (t':=s.toks) (fun _ _ q=>eF _ q) (bJ _) (zE s.heap I.big);have n1:upd H s.heap.objs.size (.dK []) s.heap.objs.size=some (.dK []):=aB;have s1:=aP hf (.dK []);refine callType_codes (Q₁:=fun obj s₁=>obj=.ref s.heap.objs.size/\s₁={ s with heap:=s.heap.push { cls:=.type "dict",data:=.dict #[] } }) F.kt_called_dict (F.kt_typeCall_dict_1 _) F.entry_dict_init (kt_code_dict_new _ ⟨rfl,rfl⟩) ?_
 rintro obj s₁ ⟨rfl,rfl⟩;have hT:=(Th I1 (.inl ⟨[],.inl n1⟩)).1;refine⟨hT,F.args_dict_init_2 _ _,?_⟩;unfold Builtin.«dict.__init__»;refine bh ?_;unfold Builtin.Dict.selfAndRest;refine bh (wpAny_notOrdered_dict hT ?_);show wpAny _ _ (pure (s.heap.objs.size,[Value.ref l])) _ _ _;refine cH ?_;show wpAny _ _ (Builtin.Dict.updateFrom "dict.__init__" s.heap.objs.size (.ref l) [] .none) _ _ _;unfold Builtin.Dict.updateFrom;obtain⟨_,its,m,r,e⟩:=I1.hok l _ (s1 _ _ hl);refine bh (yx ⟨_,e,rfl⟩ ?_);rw[aX ⋯]
 refine bh (Py e hh fun h' tk k=>?_);rw[aX ⋯]
 refine bh (Ae ?_);have I2:=I1.kept (t':=tk) k;have hL:h'.IsList l its.toArray:=⟨_,k _ _ e,rfl,_,rfl⟩;refine bh (Ec hL ?_);have I3:=I2.kept (t':=tk) (h':=h'.push { cls:=.type "list_iterator",data:=.fields #[.ref l,.int 0 0] }) fun b o eb=>eF _ eb;have fi:=I2.hok.fresh (bJ h'.objs.size);refine cH ⟨plainId_quiet ir _,codeAny_builtin qb ?_⟩;rw[Around.under_plainId ir _];refine Oh (kvs:=kvs) xs.length 0 _ _ X.A.in1 [] _ ∅ (gU _) hz hh (by show X.A.units+1+61<cLine; omega) I3 n1 (gU _) (s1 _ _ hl) ⟨P.n,fun j x q' h1 h2=>?_⟩ ⟨_,dI _ rfl,rfl,rfl⟩ (I2.tY (bJ _) fi) ?_
 ·obtain⟨t2,a1,a2⟩:=P.p j x q' h1 h2;exact⟨t2,a1,s1 _ _ a2⟩
 ·rintro H' s' J1 rfl;rw[wR] at J1;exact⟨rfl,.ref s.heap.objs.size,_,J1,rfl,q _ hf⟩
end
end _L
namespace _L
open PySem PySem.Spec PyProof.Rows PyProof
section
variable{prog:AC}{w:World}{A:Around}{E:AA->AB->Prop}
theorem Nh{h h':Heap}{it l:Addr}{items:Array AA}(t:h.IsList l items)(sb:Heap.SameBut it h h')(n:l≠it):h'.IsList l items:=by
 obtain⟨o,ho,r⟩:=t;exact⟨o,sb.extBut l o n ho,r⟩
theorem Dj{it l:Addr}{items:Array AA}(hl:l≠it):∀(n i:Nat)(s:AB)(Q:List AA->AB->Prop),s.heap.IsListIter it l i->s.heap.IsList l items->i+n<=items.size ->
  (∀h':Heap,h'.IsListIter it l (i+n)->Heap.SameBut it s.heap h'->Q ((items.toList.drop i).take n) { s with heap:=h' })->wpAny (model prog w) A (draw (.ref it) n) Q E s
 | 0,i,s,Q,hit,ht,hb,hQ=>by
  unfold draw;refine cH ?_;simpa using hQ s.heap hit ⟨rfl,fun _ _=>rfl⟩
 | n+1,i,s,Q,hit,ht,hb,hQ=>by
  unfold draw;have hi:i<items.size:=by omega
  refine bh (RW hit ht (Mu hi) fun h' hit' sb=>?_);dsimp only;refine bh (jX (Dj hl n (i+1) _ _ hit' (Nh ht sb hl) ∅ fun h'' acW sb'=>?_))
  refine cH ?_
  have e:(items.toList.drop i).take (n+1)=items[i]::(items.toList.drop (i+1)).take n:=by
   rw[Hf (by simpa using hi),List.take_succ_cons]
   simp
  rw[<- e];exact hQ h'' (by rw[show i+(n+1)=i+1+n by omega]; exact acW) (sb.trans sb')
theorem uA{s:AB}{t:Addr}{items:Array AA}{Q:List AA->AB->Prop}(hh:A.handled=none)(ht:s.heap.IsList t items)
  (hQ:∀h',Heap.ExtBut s.heap.objs.size s.heap h'->Q items.toList { s with heap:=h' }):wpAny (model prog w) A (unpackItems (.ref t) items.size none) Q E s:=by
 have hlt:t≠s.heap.objs.size:=by obtain⟨o,ho,_⟩:=ht; exact fG (bV ho)
 unfold unpackItems;refine bh ?_;unfold notIterableAtAll;refine bh (wpAny_specialOf ht.typeIs slot_list_iter.lookup ?_);refine cH ?_;simp only[Ai,if_false];refine bh (jX (Ec ht ?_));refine bh (jX (Dj hlt items.size 0 _ _ ⟨_,dI _ rfl,rfl,rfl⟩ (ht.push _) ∅ fun h₁ hit₁ hs₁=>?_))
 have hall:List.take items.size (List.drop 0 items.toList)=items.toList:=by
  rw[Hi]; exact RQ (by simp)
 rw[hall];rw[aQ (by simp)]
 have ht₁:h₁.IsList t items:=Nh (ht.push _) hs₁ hlt;refine bh (jX (wpAny_pyNext_list_end hh hit₁ ht₁ (by simp) fun h₂ he₂=>?_))
 simp only[Option.isSome_none,Ai,if_false];refine cH (hQ h₂ fun b o hb e=>he₂ b o hb (hs₁.extBut b o hb (eF _ e)))
theorem uq{s:AB}{env:Env}{elts:List Expr}{x1}{pos:Pos}{t:Addr}{items:Array AA}{Q:Unit->AB->Prop}(hh:A.handled=none)(ht:s.heap.IsList t items)
  (hn:(assignEach elts env).length=items.size) (hstar:(assignEach elts env).findIdx? (·.1)=none)
  (h:∀h',Heap.ExtBut s.heap.objs.size s.heap h'->wpAny (model prog w) A (assignInOrder ((assignEach elts env).map (·.2)) items.toList) Q E { s with heap:=h' }) :
  wpAny (model prog w) A (assign (.Tuple elts x1 pos) env (.ref t)) Q E s:=by
 rw[assign_Tuple];refine bh (Ag ?_);unfold unpack;rw[hn,hstar];exact bh (jX (uA hh ht h))
end
section
variable{X:Cx}{pos:Pos}
def af0(K:Frag)(n:Nat)(t:QC):TG:=fun v σ H Q=>∃a xs,v=.ref a/\cG K H a xs/\xs.length=n/\t xs σ H Q
theorem My{K:Frag}{es:List Expr}{k:Nat}{t:QC}{n:Nat}(hK:X.K=K)(hc:X.calm=true)(h:Yy X es t)
  (hn: ~~~((assignEach es X.env).length=n)) (hst: ~~~((assignEach es X.env).findIdx? (·.1)=none)):PG X (.Tuple es k pos) (af0 K n t):=by
 subst hK;symm;intro v u Q I r hw;obtain⟨a,xs,e1,hq,hl,hw⟩:=hw;subst e1;cases r;obtain⟨its,rv,ht⟩:=I.list hq;refine uq (I.ok.hd hc) ht.1.isList (by simp[hn,<- hl,rv.length]) hst fun h' hx=>?_
 have I1:Inv X ae σ H { s with heap:=h' }:=I.kept (t':=s.toks) fun b o e=>hx b o (fG (bV e)) e
 exact h ae _ σ H xs _ Q I1 (by simpa using rv) hw
end
end _L
namespace _L
open PySem
structure Tps(H:Hp)(as:List Addr)(N:Nat):Prop where
 tp:∀a∈as,∃n,n<=N/\Tp H a n
end _L
namespace _L
open PySem
end _L
namespace _L
open PySem PySem.Spec PyProof.Rows PySem.Builtin PySem.Builtin.ObjectAttr
section
variable{prog:AC}{w:World}{A:Around}{E:AA->AB->Prop}{h:Heap}{g:Array GenState}{d:Drawn}{t:Nat}{os:OsState}
variable{nm q:Str}{C N:Addr}{bs bm bmB:List AA}{hdct:Bool}{sn:List Str}{sub:List AA}{ab:Bool}{col:Option Bool}{dd:Option Addr}{k0 k1 k2 k3 k5:Option AA}{B Bn newId nid initId inN:String}{bmN:List AA}
end
section
variable{prog:AC}{w:World}{A:Around}{E:AA->AB->Prop}{h:Heap}{g:Array GenState}{d:Drawn}{t:Nat}{os:OsState}
variable{nm q:Str}{C N x HE:Addr}{bs bm:List AA}{sn:List Str}{sub:List AA}{ab:Bool}{col:Option Bool}{dd:Option Addr}{k0 k1 k2 k3 k5:Option AA}{newId:String}{name:Str}{v:AA}{K:Frag}
structure aev(h h':Heap)(x:Addr)(o:Obj)(dx:Addr)(name:Str)(v:AA):Prop where
 at_:h'.get? x=some { o with dict:=some dx }
 new:h.get? dx=none
 ns:h'.Ns1 dx (fun y=>if y=name then some v else none)
 keep:∀b u,b≠x->h.get? b=some u->h'.get? b=some u
end
end _L
namespace _L
open PySem PySem.Spec PyProof.Rows PySem.Builtin PySem.Builtin.ObjectAttr
structure ExS(K:Frag)(C HE:Addr)(f:Str):Prop where
 ob:∃nm q N bs sn sub ab col dd k0 k1 k2 k3 k5,K.lookup C=some (excClassObj nm q C N bs (.ref HE::YZ) true sn sub ab col dd k0 k1 k2 k3 k5 "ValueError.__new__")
 he:excIn K HE YZ "ValueError.__new__" = true
 sa:findIn K (.ref C) "__setattr__" = some (some (.builtin "object.__setattr__"))
 nf:findIn K (.ref C) f=some none
structure ExM(K:Frag)(C HE f:Addr)(fl:Str):Prop where
 s:ExS K C HE fl
 init:findIn K (.ref C) "__init__" = some (some (.ref f))
 own:∃N,(clsIn K C).map (·.ns)=some N/\nsIn K N "__init__" = some (some (.ref f))/\PySem.W.nsOkIn K N=true
 fn:isFn K (.ref f)=true
 kp:keepIn K (.ref C)=true
section
variable{X:Cx}{C HE:Addr}{fl x:Str}{o value:Expr}{ta tv:TE}{pos pos' p:Pos}
end
section
variable{prog:AC}{w:World}{A:Around}{E:AA->AB->Prop}{s:AB}{K:Frag}{x D:Addr}{ox:Obj}{od:Option Obj}
structure ExR(K:Frag)(D:Addr):Prop where
 ga:findIn K (.ref D) "__getattribute__" = some (some (.builtin "BaseException.__getattribute__"))
 gt:findIn K (.ref D) "__getattr__" = some none
 fo:∀od,findObj K D od "__class__" = some (.bind (.builtin "getset_descriptor.__get__") (.builtin "object.__class__"))
 sb:subIn K (.ref D) (.type "BaseException")=some true
 ob:mroIn K D (.type "object")=some true
 cl:(clsIn K D).isSome=true
 hd:hasDictIn K D=true
end
section
variable{X:Cx}{ae:LA}{σ:St}{H:Hp}{s:AB}{a C:Addr}{f:Str}{v:V}
end
structure CtX(P:AC)(w:World)(K:Frag)(mg:Str->Option AA)(base:Heap)(k:Nat)(C:Addr)(x:Str)(ps:List Str)(sp:Sp) where
 f:Addr
 fd:FuncData
 j:Nat
 hj:j+1<=k
 HE:Addr
 fl:Str
 G:bI P w K mg base gQ j f fd ps sp
 M:ExM K C HE f fl
 b:Binds K fd ps []
 m:mg x=some (.ref C)
section
variable{K:Frag}{C HE f:Addr}{fl:Str}
abbrev FnM(K:Frag)(x qual:Str)(st:Stmt)(f:Addr):Prop:=∃(oc:AA)(od an:Option Addr)(sl:Array (Option AA))(kV dc pm cd ct:AA),K.lookup f=some ⟨oc,od,.func (fnOf x qual (cJ st) (b8 st) (aK st) .none kV dc pm an cd ct),sl⟩/\codeIn K cd qual=true/\keepIn K (.ref f)=true
end
end _L
namespace _L
open PySem PySem.Spec PyProof.Rows
structure Ji(K:Frag)(C:Addr)(m qual:Str)(st:Stmt)(f:Addr):Prop where
 me:Meth K C m f
 fn:FnM K m qual st f
theorem Ji.mk'{K:Frag}{C:Addr}{m qual:Str}{st:Stmt}{f:Addr}{oc:AA}{od an:Option Addr}{sl:Array (Option AA)}{kV dc pm cd ct:AA}(a:findIn K (.ref C) m=some (some (.ref f)))(i:isFn K (.ref f)=true)(l:K.lookup f=some ⟨oc,od,.func (fnOf m qual (cJ st) (b8 st) (aK st) .none kV dc pm an cd ct),sl⟩)(c:codeIn K cd qual=true)(k:keepIn K (.ref f)=true):Ji K C m qual st f:=⟨⟨a,i,k⟩,⟨oc,od,an,sl,kV,dc,pm,cd,ct,l,c,k⟩⟩
structure UG(K:Frag)(C:Addr)(m qual:Str)(st:Stmt)(ps:List Str) where
 f:Addr
 fd:FuncData
 F:iT K m qual st f fd
 b:Binds K fd ps []
 M:Meth K C m f
section
variable{K:Frag}{h:Heap}{mg:Str->Option AA}{C:Addr}
theorem Ji.has{m qual:Str}{st:Stmt}{f:Addr}(e:Ji K C m qual st f){ps:List Str}(H:∀(kV doc pm:AA) (an:Option Addr) (cdv ct:AA) (us:List AA),us.length=ps.length->bindArgs (fnOf m qual (cJ st) (b8 st) (aK st) .none kV doc pm an cdv ct) ⟨us,[]⟩=pure (ps.zip us)):Nonempty (UG K C m qual st ps):=by
 obtain⟨M,oc,od,an,sl,kV,dc,pm,cd,ct,l,c,k⟩:=e;have F:=Kq (st:=st) l c k;exact⟨⟨_,_,F,F.binds H,M⟩⟩
def UG.ct{m qual:Str}{st:Stmt}{ps:List Str}{k:Nat}{sp:Sp}(h:UG K C m qual st ps)(c:Gh K C)(P:AC)(w:World)(base:Heap)(G:bI P w K mg base gQ k h.f h.fd ps sp):zY P w K mg base k C m ps sp:=⟨h.f,h.fd,G,h.M,c,h.b⟩
def UG.ctE{m qual:Str}{st:Stmt}{ps:List Str}{k:Nat}{sp:Sp}(h:UG K C m qual st ps)(c:Gh K C)(P:AC)(w:World)(base:Heap)(G:bI P w K mg base (nZ P w) k h.f h.fd ps sp):Je P w K mg base k C m ps sp:=⟨h.f,h.fd,G,h.M,c,h.b⟩
theorem YH.ns{x:Str}{st:Stmt}{f T:Addr}{i:Int}(e:YH K x st f T i):nsIn K mainGlobals x=some (some (.ref f)):=by
 obtain⟨_,_,_,_,_,_,_,_,_,_,_,_,_,_,a,_⟩:=e;exact a
structure ClE(K:Frag)(x qual:Str)(st:Stmt)(C:Addr):Prop where
 ns:nsIn K mainGlobals x=some (some (.ref C))
 c:Gh K C
 init:∃f,Mk K C f/\∃(oc oT:AA)(od an dT:Option Addr)(sl sT:Array (Option AA))(kV dc pm cd ct:AA)(T:Addr)(nT:Nat),K.lookup f=some ⟨oc,od,.func (fnOf "__init__" qual (cJ st) (b8 st) (aK st) (.ref T) kV dc pm an cd ct),sl⟩/\codeIn K cd qual=true/\keepIn K (.ref f)=true/\K.lookup T=some ⟨oT,dT,.seq #[.none] nT,sT⟩
theorem ClE.mk'{x qual:Str}{st:Stmt}{f T:Addr}{oc oT:AA}{od an dT:Option Addr}{sl sT:Array (Option AA)}{kV dc pm cd ct:AA}{nT:Nat}(a:nsIn K mainGlobals x=some (some (.ref C)))(a1:findIn K (.ref C) "__init__" = some (some (.ref f)))(i:isFn K (.ref f)=true)
  (l:K.lookup f=some ⟨oc,od,.func (fnOf "__init__" qual (cJ st) (b8 st) (aK st) (.ref T) kV dc pm an cd ct),sl⟩) (c:codeIn K cd qual=true) (k:keepIn K (.ref f)=true) (e:K.lookup T=some ⟨oT,dT,.seq #[.none] nT,sT⟩)
  (pg:plainGet K C Str.empty=true) (hd:hasDictIn K C=true) (po:plainOver K C=true) (sa:findIn K (.ref C) "__setattr__" = some (some (.builtin "object.__setattr__"))) (mk:makesIn K C=true) (kc:keepIn K (.ref C)=true):ClE K x qual st C:=
 ⟨a,⟨pg,hd,po,sa⟩,f,⟨mk,a1,i,kc⟩,oc,oT,od,an,dT,sl,sT,kV,dc,pm,cd,ct,T,nT,l,c,k,e⟩
structure aaW(K:Frag)(mg:Str->Option AA)(x qual:Str)(st:Stmt)(ps:List Str)(C:Addr) where
 f:Addr
 fd:FuncData
 T:Addr
 F:Lh K "__init__" qual st f fd T
 b:Binds K fd ps []
 bd:Binds K fd ps [.none]
 M:Mk K C f
 m:mg x=some (.ref C)
theorem ClE.has{x qual:Str}{st:Stmt}(e:ClE K x qual st C)(X:K.In h)(G:h.Ns mainGlobals mg){ps:List Str}
  (H:∀(T:Addr)(kV doc pm:AA)(an:Option Addr)(cdv ct:AA)(us:List AA),(us++[]).length=ps.length->∃k,bindArgs (fnOf "__init__" qual (cJ st) (b8 st) (aK st) (.ref T) kV doc pm an cdv ct) ⟨us,[]⟩=seqItems? (.ref T) >>= k/\k (some #[.none])=pure (ps.zip (us++[])))
  (H':∀(T:Addr)(kV doc pm:AA)(an:Option Addr)(cdv ct:AA)(us:List AA),(us++[Value.none]).length=ps.length->∃k,bindArgs (fnOf "__init__" qual (cJ st) (b8 st) (aK st) (.ref T) kV doc pm an cdv ct) ⟨us,[]⟩=seqItems? (.ref T) >>= k/\k (some #[.none])=pure (ps.zip (us++[.none]))):Nonempty (aaW K mg x qual st ps C):=by
 obtain⟨a,cl,f,M,oc,oT,od,an,dT,sl,sT,kV,dc,pm,cd,ct,T,nT,l,c,k,e⟩:=e;have F:Lh K "__init__" qual st f _ T:=⟨⟨_,_,_,_,_,_,_,_,_,rfl,l,c⟩,k,⟨_,_,e,rfl⟩⟩;exact⟨⟨_,_,_,F,F.binds (H T),F.binds (H' T),M,mg_of X G a⟩⟩
def aaW.ctE{x qual:Str}{st:Stmt}{ps:List Str}{k:Nat}{sp:Sp}(h:aaW K mg x qual st ps C)(P:AC)(w:World)(base:Heap)(G:bI P w K mg base (nZ P w) k h.f h.fd ps sp):aaX P w K mg base (k+1) C x ps sp:=⟨h.f,h.fd,k,bJ _,G,h.M,h.b,h.bd,h.m⟩
end
end _L
namespace _K
open PySem _L
def top(i:Nat):Stmt:=PySem.Challenge.pw_waithands_k35_other_posts_in_the_midst.main.body.getD i (.Pass ⟨0,0,0,0⟩)
abbrev uQ:Stmt:=top 9
abbrev JD:Stmt:=top 11
abbrev o_:Stmt:=top 12
abbrev qR:Stmt:=top 13
abbrev lL:Stmt:=top 16
abbrev qY:Stmt:=top 17
abbrev JF:Stmt:=top 19
abbrev iZ:Stmt:=top 21
abbrev pC:Stmt:=top 22
abbrev lK:Stmt:=top 23
abbrev oZ:Stmt:=top 24
abbrev lN:Stmt:=top 32
abbrev lO:Stmt:=top 33
abbrev jR:Stmt:=top 34
abbrev jQ:Stmt:=top 35
abbrev yd:Stmt:=top 37
abbrev yf:Stmt:=top 38
abbrev uJ:Stmt:=top 39
abbrev DX:Stmt:=top 40
abbrev uL:Stmt:=top 41
abbrev ye:Stmt:=top 42
abbrev jP:Stmt:=top 43
abbrev uK:Stmt:=top 44
abbrev mY:Stmt:=top 45
abbrev yc:Stmt:=top 46
abbrev yg:Stmt:=top 47
abbrev uM:Stmt:=top 48
abbrev x_:Stmt:=top 49
abbrev qW:Stmt:=top 50
abbrev uP:Stmt:=top 51
abbrev uN:Stmt:=top 52
abbrev qU:Stmt:=top 53
abbrev uO:Stmt:=top 54
abbrev sY:Stmt:=top 55
abbrev qX:Stmt:=top 56
abbrev ph:Stmt:=top 57
abbrev DY:Stmt:=top 58
abbrev qT:Stmt:=top 59
abbrev xZ:Stmt:=top 60
abbrev i_:Stmt:=inClass (top 31) 0
abbrev m6:Stmt:=inClass (top 31) 1
abbrev iG:Stmt:=inClass (top 31) 2
abbrev gJ:Stmt:=inClass (top 31) 3
abbrev lR:Stmt:=inClass (top 31) 4
abbrev mZ:Stmt:=inClass (top 31) 5
abbrev lQ:Stmt:=inClass (top 31) 6
abbrev jT:Stmt:=inClass (top 31) 7
abbrev jU:Stmt:=inClass (top 31) 8
abbrev lU:Stmt:=inClass (top 31) 9
abbrev lV:Stmt:=inClass (top 31) 10
abbrev jV:Stmt:=inClass (top 31) 11
structure Bi(mg:Str->Option AA):Prop where
 all:mg "all" = none
 isinstance:mg "isinstance" = none
 str:mg "str" = none
 len:mg "len" = none
 max:mg "max" = none
 min:mg "min" = none
 sum:mg "sum" = none
 list:mg "list" = none
 reversed:mg "reversed" = none
 range:mg "range" = none
 tuple:mg "tuple" = none
 enumerate:mg "enumerate" = none
 set:mg "set" = none
 abs:mg "abs" = none
 int:mg "int" = none
 dict:mg "dict" = none
 bool:mg "bool" = none
 zip:mg "zip" = none
structure Co(K:Frag)(mg:Str->Option AA):Prop where
 adq:GT2 K mg "WHATS" Q3
 OVER:Gs mg "OVER" "over"
 UNDER:Gs mg "UNDER" "under"
 EACH:Gs mg "EACH" "each"
 LETTERS:Gs mg "LETTERS" "abcdefghijklmnopqrstuvwxyz"
 Ga:Gi mg "MOST_LETTERS" 8
 Lg:Gi mg "MOST_HANDS" 12
 FW:Gi mg "TRIPLES_SEEN" 3
 Lf:Gi mg "MOST_POSTS" 5
local macro_rules | `(tactic| walk_at "c")=>`(tactic| exact⟨rfl,rfl,rfl,by decide +kernel,rfl,by decide +kernel,by decide +kernel⟩)
set_option hygiene false in
local macro_rules | `(tactic| ext)=>`(tactic| simp only[_L.start,iI,List.map_nil,fH,rm,Nat.reduceAdd,Nat.reduceSub,List.replicate,List.cons_append,Hm,q_,
 qP,Vo,abN,abM,Xz,DP,eO,XF,Vy,Vx,RL,VG,if_true,if_false,Ai,Bool.not_true,Bool.not_false,VF,VB,Zy,Zv,Zx,Zu,VH,VJ,RM,Vz,Zw,acg,tC,Xx,tUn,VL,rI,rU,Ls,abU,tOr,abP,XJ,aeR,Xy,tIf,nJ,tCB,sH,Gq,tB,Rj,tSl,Lw,Xv,ac0,abO,abQ,Y9,XD,Xr,tBM,aeS,abT,Xw,XH,ipI,XC,abR,tFv,tJs,tJ1,tJ0,aeQ,Rk,Rc,xPe,abH,xIf,abE,abF,aeL,xPs,aeI,aeK,aeH,abG,aeJ,acj,acn,Za,Zt,Gr,Y_,Rf,X5,Gv,Ri,Xo])
section
variable{P:AC}{w:World}{K:Frag}{mg:Str->Option AA}{base:Heap}{f:Addr}{fd:FuncData}{k:Nat}
theorem yI{X:Cx}:ou X (binaryOp .FloorDiv) (rI (fun _ j=>0<j/\j<10 ^ 60) fun i j=>.int (i / j)):=opI fun i j _ _ _ _ _ hc q=>by
 have h1:(0:Int)<j:=hc.1;have h2:j<10 ^ 60:=hc.2;refine PyProof.Rows.floordiv_int ∅ (by rw[Int.fdiv_eq_ediv_of_nonneg i ∅]; exact q) (.inl (PyProof.noPylong_of_log2 ?_))
 have:j.natAbs<10 ^ 60:=by omega
 by_cases z:j.natAbs=0
 ·omega
 ·have h3:j.natAbs<2 ^ 1000:=Hh this (by decide +kernel)
  have:=(Nat.log2_lt z).mpr h3;omega
structure jz where
 w:Str
 s:Nat
 g:Str
 n:Int
 t:Int
def ym(r:jz):PyData:=.tuple [.str r.w,.int r.s,.str r.g,.int r.n,.int r.t]
def vP(rs:List jz):PyData:=.tuple (rs.map ym)
def m7(gD:List (List jz)):PyData:=.tuple (gD.map vP)
structure zW(r:jz):Prop where
 w:r.w∈(["come","done","wait"]:List Str)
 s:1<=r.s/\r.s<=4
 n:0<=r.n/\r.n<=1000000000000
 e:r.g = "each" -> 1<=r.n
def h_(l:List Int):PyData:=.tuple (l.map .int)
def Jr(cU:List (List Int)):PyData:=.tuple (cU.map h_)
structure my(cU:List (List Int)):Prop where
 n:cU.length=4
 l:∀x∈cU,x.length=3
def vD(w:Str)(s:Nat)(cU:List (List Int)):Int:=((cU.take s).map fun l=>l.getD (fO w) 0).sum
def says(r:jz)(h:Int)(cU:List (List Int)):Option Int:=
 if r.g = "each" then some ((vD r.w r.s cU+r.n*r.s-1) / (r.n*r.s))
 else if(r.g = "over" /\ vD r.w r.s cU>r.n*r.s)\/(r.g = "under" /\ vD r.w r.s cU<r.n*r.s) then some (h+r.t) else none
def sX:Option Int->V
 | none=>.non
 | some i=>.int i
def gC(h:Int)(cU:List (List Int)):List jz->Int
 | []=>h
 | r::rs=>match says r h cU with
  | some i=>i
  | none=>gC h cU rs
def topOf(h:Int):List Int->Int
 | []=>h
 | b::r=>jx b r
def mF(gD:List (List jz))(l m h:Int)(cU:List (List Int)):Int:=
 let x:=topOf h (gD.map (gC h cU))
 let y:=if l>x then l else x
 if m<y then m else y
theorem Bv(w:Str):fO w<3:=by
 unfold fO;split
 ·decide
 ·split <;> decide
theorem bB{H:Hp}{ds:List PyData}{v:V}(h:At H (.tuple ds) v):∃a xs,v=.ref a/\H a=some (.tup xs)/\aj H ds xs:=by unfold At at h; exact h
theorem aj.aR{H:Hp}{d:PyData}{ds:List PyData}{xs:List V}(h:aj H (d::ds) xs):∃x r,xs=x::r/\At H d x/\aj H ds r:=by unfold aj at h; exact h
theorem aj.iu{H:Hp}{xs:List V}(h:aj H [] xs):xs=[]:=by unfold aj at h; exact h
theorem cz{G:Hp}:∀{cs:List Int}{xs:List V},aj G (cs.map PyData.int) xs->xs=cs.map V.int
 | [],xs,h=>by unfold aj at h; exact h
 | c::cs,xs,h=>by
  obtain⟨x,r,rfl,h1,h2⟩:=aj.aR h;unfold At at h1;rw[h1,cz h2]; rfl
theorem bU{H:Hp}:∀cs:List Int,aj H (cs.map .int) (cs.map V.int)
 | []=>aj.nil
 | c::cs=>aj.cons (At.int c) (bU cs)
theorem row_shape{H:Hp}{r:jz}{v:V}(h:At H (ym r) v):∃a,v=.ref a/\H a=some (.tup [.str r.w,.int r.s,.str r.g,.int r.n,.int r.t]):=by
 obtain⟨a,xs,rfl,h1,h2⟩:=bB h;obtain⟨x1,_,rfl,a1,h2⟩:=aj.aR h2;obtain⟨x2,_,rfl,a2,h2⟩:=aj.aR h2;obtain⟨x3,_,rfl,a3,h2⟩:=aj.aR h2;obtain⟨x4,_,rfl,a4,h2⟩:=aj.aR h2;obtain⟨x5,_,rfl,a5,h2⟩:=aj.aR h2;cases aj.iu h2;unfold At at a1 a2 a3 a4 a5;subst a1 a2 a3 a4 a5;exact⟨a,rfl,h1⟩
theorem NQ{K:Frag}{js:List Nat}{a:Addr}{xs:List V}{ds:List PyData}{f:Nat->Int}{tl te:TE}{σ:St}{H:Hp}{Q:VK}(hl:∀R:VK,R (.ref a) H->tl σ H R)(ha:H a=some (.tup xs))(hd:aj H ds xs)(hz:ds.length<=sizeLine)
  (step:∀(i:Nat) x d H',aL H H'->ds[i]?=some d->At H' d x->∀R:VK,(∀bO,aL H' bO->R (.int (f i)) bO)->te (some x::bR js σ) H' R)
  (fin:∀acc H',aL H H'->H' acc=some (.lst (((List.range ds.length).map f).map V.int))->Q (.ref acc) H'):iw js (Kl K tl) te σ H Q:=by
 refine hl _ ⟨a,rfl,⟨xs,eX.of ha⟩,fun acc hacc=>?_⟩;have hlen:=hd.length;refine⟨fun i m ys H2=>m=ds.length-i/\i<=ds.length/\ys=((List.range i).map f).map V.int/\aL H H2/\H2 acc=some (.lst ys),⟨_,rfl,gU _,rfl,aP hacc _,aB⟩,?_⟩;rintro i m ys H2 ⟨rfl,hi,rfl,sm,hy⟩;have ht:eX K H2 a xs:=eX.of (sm _ _ ha);by_cases hlt:i<ds.length
 ·refine .inr ⟨⟨xs,xs[i]'∅,ht,dC ∅⟩,fun x H3 y=>?_⟩
  obtain⟨e,y⟩:=y;subst e;obtain⟨d,e1,e2⟩:=hd.get (y xs ht);refine step i x d _ sm e1 (e2.mono sm) _ fun H4 s4=>⟨s4 _ _ hy,?_,ds.length-(i+1),∅,rfl,hlt,?_,?_,aB⟩
  ·rw[bW,bW,List.length_range]; omega
  ·rw[Ho]; simp
  ·refine fun b o q=>?_;have nb:b≠acc:=cB q hacc;rw[aJ nb];exact s4 _ _ (sm _ _ q)
 ·have e:i=ds.length:=by omega
  subst e;exact .inl ⟨⟨xs,ht,∅⟩,fin _ _ sm hy⟩
def CT(K:Frag)(js:List Nat)(te:TE)(σ:St)(Q:VK)(x:V)(H1:Hp):Prop:=iw js (Kl K (fun _ H R=>R x H)) te σ H1 Q
theorem BP{K:Frag}{js:List Nat}{tl te:TE}{σ:St}{H:Hp}{Q:VK}:iw js (Kl K tl) te σ H Q=tl σ H (CT K js te σ Q):=rfl
def Jz:Sp:=fun vs H Q _=>∃(v u:V)(h:Int)(r:jz)(cU:List (List Int)),vs=[v,.int h,u]/\At H (ym r) v/\At H (Jr cU) u/\zW r/\my cU/\∀H',aL H H'->Q (sX (says r h cU)) H'
theorem agX.of{v u:V}{h:Int}{r:jz}{cU:List (List Int)}{H:Hp}{Q:VK}{E:XK}(a1:At H (ym r) v)(a2:At H (Jr cU) u)(h1:zW r)(h2:my cU)(q:∀H',aL H H'->Q (sX (says r h cU)) H'):Jz ([v,.int h,u]++[]) H Q E:=⟨v,u,h,r,cU,rfl,a1,a2,h1,h2,q⟩
theorem Ac{cU:List (List Int)}{w:Str}{s:Nat}:((List.range (cU.take s).length).map fun i=>((cU.take s).getD i []).getD (fO w) 0).sum=vD w s cU:=by
 unfold vD
 congr 1
 generalize cU.take s=l
 apply Hs
 ·simp
 ·intro i h1 h2;simp at h1 h2;simp[iV,h2]
theorem vH:bf ["row","hands","newest","what","span","sign","number","step","place","total","mark"] AD (aK qR):=(by walk_at "c")
theorem Hz(F:iT K "row_says" "row_says" qR f fd)(B:Bi mg)(O:Co K mg):bI P w K mg base gQ (k+1) f fd AD Jz:=by
 refine F.ok vH (hbody:=(0:))
 obtain⟨v,u,h,r,cU,rfl,a1,a2,hR,hN,q⟩:=h;have ND:=vH.nd;refine⟨_,(aA (cI (pv 0) (bL (K:=K) (n:=5) rfl rfl (aF (aG (i:=3)) (aF (aG (i:=4)) (aF (aG (i:=5)) (aF (aG (i:=6)) (aF (aG (i:=7)) bG))))))) (aA (aW (i:=8) (ik (K:=K) rfl PySem.F.plainAttrs_tuple PySem.F.slot_tuple_index PySem.F.type_tuple_index (Pr (K:=K) rfl) (Wb (K:=K) rfl O.adq) (ao (pv 3) ak))) (aA (aW (i:=9) (pb (dB rfl) B.sum jg (ao (dR (N':=["triple","place"]) (js:=[8]) rfl (tH (K:=K) rfl (cR gY (pv 2) dN (dq (pv 4)))) sr.mk1 rfl ⋯ rfl (fun fp s' H'=>(bu aZ (pv 0) (pv 1)))) ak))) (aA (aW (i:=10) (aO il (pv 6) (pv 4))) (aA (b_ (bc fW (pv 5) (Ek O.EACH) (bj _)) (aH (bw (aO yI (aO dY (aO bz (pv 9) (pv 10)) aq) (pv 10)))) bD) (aA (b_ (PW.pt (yC (PW.pt (rE (bc fW (pv 5) (Ek O.OVER) (bj _)) (m9 (bc pK (pv 9) (pv 10) (bj _))))) (rD (PW.pt (rE (bc fW (pv 5) (Ek O.UNDER) (bj _)) (m9 (bc qI (pv 9) (pv 10) (bj _)))))))) (aH (bw (aO bz (pv 1) (pv 7)))) bD) (aH (bw gf)))))))),?_⟩
 obtain⟨a,rfl,h1⟩:=row_shape a1;obtain⟨b,xs,rfl,h2,h3⟩:=bB a2;ext;refine⟨a,_,rfl,eX.of h1,rfl,?_⟩;ext;intro aw ho hw;refine⟨.inr (.inl ⟨rfl,ho⟩),aw,r.w,rfl,hw _,rfl,hR.w,?_⟩;show iw _ _ _ _ _ _;rw[BP];ext;refine⟨b,xs,rfl,h2,fun p H1 s1 e1=>?_⟩;rw[vg ∅,rB] at e1
 have h3':aj H1 ((cU.take r.s).map h_) (xs.take r.s):=by rw[Ck]; exact(h3.take r.s).mono s1
 have hs4:=hR.s;have htl:(cU.take r.s).length<=4:=by rw[k_]; omega
 refine NQ (a:=p) (f:=fun i=>((cU.take r.s).getD i []).getD (fO r.w) 0) (fun R hR=>hR) e1 h3' (jE (a_ (by rw[bW]; omega))) (fun i x d H' s' ed hx R hR'=>?_) (fun acc H' s' hl=>?_)
 ·rw[cM] at ed;obtain⟨l,el,rfl⟩:=JQ.mp ed;have l3:l.length=3:=hN.l l (wB (dz el));obtain⟨c,ys,rfl,g1,g2⟩:=bB hx;cases cz g2;show Xx _ _ _ [some _,some (.int (fO r.w:Nat))] H' R;ext;have hw:=Bv r.w;refine Ix.tup g1 (v:=.int (l.getD (fO r.w) 0)) (aV (by rw[cM,dC ∅,iV,dC ∅]; rfl)) ?_
  have:=hR' H' (aL.refl H');have eg:(cU.take r.s).getD i []=l:=by rw[iV,el]; rfl
  rw[eg] at this;exact this
 ·have sm:=s1.trans s';rw[bW] at hl;refine⟨acc,_,rfl,.inl hl,.inl (by have:=hR.n; omega),?_⟩
  rw[Ac];have q1:=q H' sm;unfold says at q1;refine cA (fun c1=>?_) (fun c1=>?_)
  ·have c1':=rC c1;rw[aX c1'] at q1;have h1n:=hR.e c1';have hpos:0<r.n*(r.s:Int):=Int.mul_pos ∅ ∅
   have hup:r.n*(r.s:Int)<=1000000000000*4:=Int.mul_le_mul hR.n.2 ∅ ∅ ⋯
   exact⟨⟨hpos,Int.lt_of_le_of_lt hup ⋯⟩,q1⟩
  ·have c1':=wA c1;rw[aQ c1'] at q1;generalize vD r.w r.s cU=tot at q1 ⊢;generalize r.n*(r.s:Int)=mark at q1 ⊢;by_cases o1:r.g = "over"
   ·have u1:¬r.g = "under" := by rw[o1]; decide +kernel
    rw[jF o1,aX rfl];by_cases o2:mark<tot
    ·rw[jF o2,aX rfl];rw[aX (.inl ⟨o1,o2⟩)] at q1; exact q1
    ·rw[mJ o2,aQ ⋯,mJ u1,aQ ⋯]
     rw[aQ (fun z=>by rcases z with z | z; exact o2 z.2; exact u1 z.1)] at q1; exact q1
   ·rw[mJ o1,aQ ⋯]
    by_cases u1:r.g = "under"
    ·rw[jF u1,aX rfl];by_cases o2:tot<mark
     ·rw[jF o2,aX rfl];rw[aX (.inr ⟨u1,o2⟩)] at q1; exact q1
     ·rw[mJ o2,aQ ⋯]
      rw[aQ (fun z=>by rcases z with z | z; exact o1 z.1; exact o2 z.2)] at q1; exact q1
    ·rw[mJ u1,aQ ⋯]
     rw[aQ (fun z=>by rcases z with z | z; exact o1 z.1; exact u1 z.1)] at q1; exact q1
def Zg:Sp:=fun vs H Q _=>∃(v u:V)(h:Int)(rs:List jz)(cU:List (List Int)),vs=[v,.int h,u]/\At H (vP rs) v/\At H (Jr cU) u/\(∀r∈rs,zW r)/\my cU/\∀H',aL H H'->Q (.int (gC h cU rs)) H'
theorem Rw.of{v u:V}{h:Int}{rs:List jz}{cU:List (List Int)}{H:Hp}{Q:VK}{E:XK}(a1:At H (vP rs) v)(a2:At H (Jr cU) u)(h1:∀r∈rs,zW r)(h2:my cU)(q:∀H',aL H H'->Q (.int (gC h cU rs)) H'):Zg ([v,.int h,u]++[]) H Q E:=⟨v,u,h,rs,cU,rfl,a1,a2,h1,h2,q⟩
theorem sU:bf ["rule","hands","newest","row","said"] AE (aK o_):=(by walk_at "c")
theorem Er(F:iT K "rule_wish" "rule_wish" o_ f fd)(rW:Ct P w K mg base k "row_says" AD Jz):bI P w K mg base gQ (k+1) f fd AE Zg:=by
 refine F.ok sU (hbody:=(0:))
 obtain⟨v,u,h,rs,cU,rfl,a1,a2,hR,hN,q⟩:=h;have ND:=sU.nd;refine⟨_,(aA (gK PassesOwn.never rfl (tH (K:=K) rfl (pv 0)) (aG (i:=3)) (aA (aW (i:=4) (pf rW hr (ao (pv 3) (ao (pv 1) (ao (pv 2) ak))))) (aH (b_ (bc qj (pv 4) gf (bj _)) (aH (bw (pv 4))) bD)))) (aH (bw (pv 1)))),?_⟩
 obtain⟨a,xs,rfl,h1,h2⟩:=bB a1;have hlen:=h2.length;rw[bW] at hlen;ext;rw[Gu];ext;refine TK.of h1 (fun n σ H'=>∃o1 o2,σ=[some (.ref a),some (.int h),some u,o1,o2]/\aL H H'/\gC h cU (rs.drop n)=gC h cU rs) ⟨_,_,rfl,aL.refl H,rfl⟩ (fun n σ H' _ ⟨o1,o2,_,sm,_⟩=>sm _ _ h1) ?_ ?_
 ·rintro n x σ H1 hx ⟨o1,o2,rfl,sm,e⟩;obtain⟨d,e1,e2⟩:=h2.get hx;rw[cM] at e1;obtain⟨r,er,rfl⟩:=JQ.mp e1
  have hn:n<rs.length:=by
   obtain⟨z,_⟩:=iY.mp er; exact z
  have ed:rs.drop n=r::rs.drop (n+1):=by
   rw[Hf hn];obtain⟨z,ez⟩:=iY.mp er;rw[ez]
  rw[ed,gC] at e;ext;refine agX.of (e2.mono sm) (a2.mono sm) (hR r (dz er)) hN fun H2 s2=>?_;have s2:=sm.trans s2;cases es:says r h cU with
  | none=>
   rw[es] at e;refine⟨trivial,?_⟩;exact⟨_,_,rfl,s2,e⟩
  | some i=>
   rw[es] at e;refine⟨trivial,?_⟩;have e:i=gC h cU rs:=e;show Q (.int i) H2;rw[e]; exact q H2 s2
 ·rintro σ H1 ⟨o1,o2,rfl,sm,e⟩;ext;rw[hlen,GQ] at e;have e:h=gC h cU rs:=e;rw[e];have:=q H1 sm;rw[<- e] at this ⊢;exact this
def R5(d0 d1 d3 d4 d5:PyData)(l m:Int)(gD:List (List jz)):PyData:=.tuple [d0,d1,.tuple [.int l,.int m],d3,d4,d5,m7 gD]
def Ro:Sp:=fun vs H Q _=>∃(v u:V)(h l m:Int)(d0 d1 d3 d4 d5:PyData)(gD:List (List jz))(cU:List (List Int)),vs=[v,.int h,u]/\At H (R5 d0 d1 d3 d4 d5 l m gD) v/\At H (Jr cU) u/\(∀rs∈gD,∀r∈rs,zW r)/\gD.length<=100/\my cU /\
 ∀H',aL H H'->Q (.int (mF gD l m h cU)) H'
theorem Mf:bf ["post","hands","newest","least","most","wishes","wished"] AF (aK JD):=(by walk_at "c")
theorem Wo(F:iT K "wish" "wish" JD f fd)(B:Bi mg)(pZ:Ct P w K mg base k "rule_wish" AE Zg):bI P w K mg base gQ (k+1) f fd AF Ro:=by
 refine F.ok Mf (hbody:=(0:))
 obtain⟨v,u,h,l,m,d0,d1,d3,d4,d5,gD,cU,rfl,a1,a2,hR,hn,hN,q⟩:=h;have ND:=Mf.nd;refine⟨_,(aA (cI (bu aZ (pv 0) aq) (bL (K:=K) (n:=2) rfl rfl (aF (aG (i:=3)) (aF (aG (i:=4)) bG)))) (aA (Eg (i:=5) ND rfl (by walk_at "o") (N':=["rule","hands","newest"]) (js:=[1,2]) rfl (tH (K:=K) rfl (bu aZ (pv 0) aq)) sr.mk2 rfl ⋯ rfl (fun fp s' H'=>(pf pZ hr (ao (pv 0) (ao (pv 1) (ao (pv 2) ak)))))) (aA (aW (i:=6) (We rfl B.max (ao (pv 5) ak) (pv 1))) (aH (bw (pb (cW rfl) B.min iR (ao (pb (gw rfl) B.max kZ (ao (pv 6) (ao (pv 3) ak))) (ao (pv 4) ak)))))))),?_⟩
 obtain⟨a,xs,rfl,h1,h2⟩:=bB a1;obtain⟨x0,_,rfl,b0,h2⟩:=aj.aR h2;obtain⟨x1,_,rfl,b1,h2⟩:=aj.aR h2;obtain⟨x2,_,rfl,b2,h2⟩:=aj.aR h2;obtain⟨x3,_,rfl,b3,h2⟩:=aj.aR h2;obtain⟨x4,_,rfl,b4,h2⟩:=aj.aR h2;obtain⟨x5,_,rfl,b5,h2⟩:=aj.aR h2;obtain⟨x6,_,rfl,b6,h2⟩:=aj.aR h2;cases aj.iu h2;obtain⟨c,ys,rfl,g1,g2⟩:=bB b2;obtain⟨y0,_,rfl,k0,g2⟩:=aj.aR g2;obtain⟨y1,_,rfl,k1,g2⟩:=aj.aR g2;cases aj.iu g2;unfold At at k0 k1;subst k0 k1;obtain⟨e,zs,rfl,m1,m2⟩:=bB b6;ext;refine Ix.tup h1 (aV (j:=2) rfl) ⟨c,_,rfl,eX.of g1,rfl,?_⟩;ext;rw[BP];ext;refine Ix.tup h1 (aV (j:=6) rfl) ?_;refine NQ (a:=e) (f:=fun i=>gC h cU (gD.getD i [])) (fun R hR=>hR) m1 m2 (jE (a_ (by rw[bW]; omega))) (fun i x d H' s' ed hx R hR'=>?_) (fun acc H' s' hl=>?_)
 ·rw[cM] at ed;obtain⟨rs,el,rfl⟩:=JQ.mp ed;show nJ _ _ _ _ [some x,some (.int h),some u] H' R;ext;refine Rw.of hx (a2.mono s') (hR rs (dz el)) hN fun H2 s2=>?_;have:=hR' H2 s2;have eg:gD.getD i []=rs:=by rw[iV,el]; rfl
  rw[eg] at this;exact this
 ·rw[bW] at hl
  have el:(List.range gD.length).map (fun i=>gC h cU (gD.getD i []))=gD.map (gC h cU):=by
   apply Hs
   ·simp
   ·intro i h1 h2;simp at h1 h2;simp[iV,h2]
  rw[el] at hl;have q1:=q H' s';unfold mF topOf at q1;refine⟨acc,_,rfl,hl,fun en=>?_,fun b r er=>?_⟩
  ·rw[en] at q1;exact q1
  ·rw[er] at q1;exact q1
def wW:Sp:=fun vs H Q _=>∃(v x:V)(a:Addr)(r:Int)(b:Addr)(ns:List Int)(u:List V),v=.ref a/\vs=[v]/\H a=some (.tup (x::.int r::.ref b::u))/\H b=some (.tup (ns.map V.int))/\Q (.int (r+ns.sum)) H
theorem vM:bf ["stand"] ["stand"] (aK qY):=(by walk_at "c")
theorem HR(F:iT K "hands_of" "hands_of" qY f fd)(B:Bi mg):bI P w K mg base gQ (k+1) f fd ["stand"] wW:=by
 refine F.ok vM (hbody:=(0:))
 obtain⟨v,x,a,r,b,ns,u,rfl,rfl,h1,h2,q⟩:=h;have ND:=vM.nd;refine⟨_,(aH (bw (aO bz (bu aZ (pv 0) aq) (pb (dB rfl) B.sum jg (ao (bu aZ (pv 0) aq) ak))))),?_⟩;ext;refine⟨a,_,1,_,rfl,rfl,.inr h1,aV (j:=1) rfl,?_⟩;refine⟨a,_,2,_,rfl,rfl,.inr h1,aV (j:=2) rfl,?_⟩;refine⟨b,ns,rfl,.inr h2,?_⟩;exact⟨_,_,rfl,rfl,q⟩
theorem TY{X:Cx}:ady X (fun o i H Q=>∃(p:Addr)(xs:List V)(j:Nat)(v:V),o=.ref p/\i=.int j/\H p=some (.lst xs)/\xs[j]?=some v/\Q v H):=by
 intro ae s σ H o i ov iv Q I ro ri h;obtain⟨p,xs,j,v,rfl,rfl,hp,hv,q⟩:=h;cases ro;obtain⟨t,rfl⟩:=ri;obtain⟨its,r,pl,hz⟩:=I.list (cG.of (K:=X.K) hp);obtain⟨w,ew,D_⟩:=r.get hv;have hl:=r.length;have hn:=rM;have hj:j<xs.length:=by obtain⟨z,_⟩:=iY.mp hv; exact z
 exact wpAny_getItem_list pl.isList ∅ ∅ (by simpa using ew) ⟨v,H,I,D_,q⟩
theorem Fb{n j:Nat}(h:j<n):Tf n (j:Int)=some j:=by
 unfold Tf;rw[aX ∅,aX ∅,rB]
structure jk where
 w:Int
 r:Int
 cs:List Int
 s:Int
 t:Int
 us:List (List Int)
def n_(x:jk):PyData:=.tuple [.int x.w,.int x.r,.tuple (x.cs.map .int),.int x.s,.int x.t,.tuple (x.us.map h_)]
structure FZ(x:jk):Prop where
 c:x.cs.length=5
 u:x.us.length=3
 l:∀y∈x.us,y.length=3
structure gm where
 p:Int
 m:Int
 lo:Int
 hi:Int
 a:Nat
 e:Int
 u:Int
 d:Int
 gD:List (List jz)
def dh(x:gm):PyData:=R5 (.int x.p) (.int x.m) (.int x.a) (.int x.e) (.tuple [.int x.u,.int x.d]) x.lo x.hi x.gD
structure Uz(x:gm):Prop where
 a:x.a<=4
 p:0<=x.p/\x.p<=1000000
 n:x.gD.length<=100
 g:∀rs∈x.gD,∀r∈rs,zW r
theorem uX{H:Hp}{x:gm}{v:V}(h:At H (dh x) v):∃a b c d,v=.ref a/\H a=some (.tup [.int x.p,.int x.m,.ref b,.int x.a,.int x.e,.ref c,.ref d])/\H c=some (.tup [.int x.u,.int x.d]):=by
 obtain⟨a,xs,rfl,h1,h2⟩:=bB h;obtain⟨x0,_,rfl,b0,h2⟩:=aj.aR h2;obtain⟨x1,_,rfl,b1,h2⟩:=aj.aR h2;obtain⟨x2,_,rfl,b2,h2⟩:=aj.aR h2;obtain⟨x3,_,rfl,b3,h2⟩:=aj.aR h2;obtain⟨x4,_,rfl,b4,h2⟩:=aj.aR h2;obtain⟨x5,_,rfl,b5,h2⟩:=aj.aR h2;obtain⟨x6,_,rfl,b6,h2⟩:=aj.aR h2;cases aj.iu h2;unfold At at b0 b1 b3 b4;subst b0 b1 b3 b4;obtain⟨b,ys,rfl,_,_⟩:=bB b2;obtain⟨c,zs,rfl,g1,g2⟩:=bB b5;obtain⟨d,ws,rfl,_,_⟩:=bB b6;obtain⟨y0,_,rfl,k0,g2⟩:=aj.aR g2;obtain⟨y1,_,rfl,k1,g2⟩:=aj.aR g2;cases aj.iu g2;unfold At at k0 k1;subst k0 k1;exact⟨a,b,c,d,rfl,h1,g1⟩
theorem qd{H:Hp}{x:jk}{v:V}(h:At H (n_ x) v):∃a b c,v=.ref a/\H a=some (.tup [.int x.w,.int x.r,.ref b,.int x.s,.int x.t,.ref c])/\H b=some (.tup (x.cs.map V.int))/\At H (.tuple (x.us.map h_)) (.ref c):=by
 obtain⟨a,xs,rfl,h1,h2⟩:=bB h;obtain⟨x0,_,rfl,b0,h2⟩:=aj.aR h2;obtain⟨x1,_,rfl,b1,h2⟩:=aj.aR h2;obtain⟨x2,_,rfl,b2,h2⟩:=aj.aR h2;obtain⟨x3,_,rfl,b3,h2⟩:=aj.aR h2;obtain⟨x4,_,rfl,b4,h2⟩:=aj.aR h2;obtain⟨x5,_,rfl,b5,h2⟩:=aj.aR h2;cases aj.iu h2;unfold At at b0 b1 b3 b4;subst b0 b1 b3 b4;obtain⟨b,ys,rfl,g1,g2⟩:=bB b2;cases cz g2;obtain⟨c,zs,rfl,_,_⟩:=bB b5;exact⟨a,b,c,rfl,h1,g1,b5⟩
def uG(e s:Int):Int:=if s+1<e then s+1 else 0
def lX(e s t:Int):Bool:=if s+1<e then false else decide (t=0)
def LC:Sp:=fun vs H Q _=>∃(v:V)(x:gm)(s t:Int),vs=[v,.int s,.int t]/\At H (dh x) v/\∀p H',aL H H'->H' p=some (.tup [.int (uG x.e s),.bl (lX x.e s t)])->Q (.ref p) H'
theorem lA:bf ["post","since","rest","every"] ["post","since","rest"] (aK iZ):=(by walk_at "c")
theorem tK(F:iT K "since_and_look" "since_and_look" iZ f fd):bI P w K mg base gQ (k+1) f fd ["post","since","rest"] LC:=by
 refine F.ok lA (hbody:=(0:))
 obtain⟨v,x,sn,t,rfl,a1,q⟩:=h;have ND:=lA.nd;refine⟨_,(aA (aW (i:=3) (bu aZ (pv 0) aq)) (aA (b_ (bc qI (aO bz (pv 1) aq) (pv 3) (bj _)) (aH (bw (bx (ao (aO bz (pv 1) aq) (ao jo ak))))) bD) (aH (bw (bx (ao aq (ao (eG fW (pv 2) aq (bj _)) ak))))))),?_⟩
 obtain⟨a,b,c,d,rfl,h1,h2⟩:=uX a1;ext;refine Ix.tup h1 (aV (j:=4) rfl) ?_;ext;refine cA (fun c1=>?_) (fun c1=>?_)
 ·have c1':=rC c1;refine⟨⋯,fun p H1 f1 s1 e1=>q p H1 s1 ?_⟩
  unfold uG lX;rw[aX c1',aX c1']; exact e1
 ·have c1':=wA c1;refine⟨⋯,fun p H1 f1 s1 e1=>q p H1 s1 ?_⟩
  unfold uG lX;rw[aQ c1',aQ c1']; exact e1
def xm(x:gm)(h fr:Int)(cU:List (List Int)):Int:=if fr<mF x.gD x.lo x.hi h cU-h then fr else mF x.gD x.lo x.hi h cU-h
def Gw:Sp:=fun vs H Q _=>∃(v u:V)(x:gm)(h fr:Int)(cU:List (List Int)),vs=[v,.int h,u,.int fr]/\At H (dh x) v/\At H (Jr cU) u/\Uz x/\my cU/\∀H',aL H H'->Q (.int (xm x h fr cU)) H'
theorem sW:bf AG AG (aK pC):=(by walk_at "c")
theorem Et(F:iT K "change_of" "change_of" pC f fd)(B:Bi mg)(KH:Ct P w K mg base k "wish" AF Ro):bI P w K mg base gQ (k+1) f fd AG Gw:=by
 refine F.ok sW (hbody:=(0:))
 obtain⟨v,u,x,h,fr,cU,rfl,a1,a2,hP,hN,q⟩:=h;have ND:=sW.nd;refine⟨_,(aH (bw (pb (cW rfl) B.min iR (ao (aO dY (pf KH hr (ao (pv 0) (ao (pv 1) (ao (pv 2) ak)))) (pv 1)) (ao (pv 3) ak))))),?_⟩;ext;refine⟨v,u,h,x.lo,x.hi,_,_,_,_,_,x.gD,cU,rfl,a1,a2,hP.g,hP.n,hN,fun H1 s1=>?_⟩;ext;exact q H1 s1
def bA:List Int->Int->List Int×Int
 | [],n=>([],n)
 | c::cs,n=>((c-(if(bA cs n).2<c then(bA cs n).2 else c))::(bA cs n).1,(bA cs n).2-(if(bA cs n).2<c then(bA cs n).2 else c))
theorem nD:∀(cs:List Int)(n:Int),(bA cs n).1.length=cs.length
 | [],_=>rfl
 | c::cs,n=>by rw[bA,fH,fH,nD cs n]
def Rt:Sp:=fun vs H Q _=>∃(r n:Int)(b:Addr)(cs:List Int),vs=[.int r,.ref b,.int n]/\H b=some (.tup (cs.map V.int))/\cs.length<=100/\∀p b' H',aL H H'->H' p=some (.tup [.int (r-(bA cs n).2),.ref b'])->H' b'=some (.tup ((bA cs n).1.map V.int))->Q (.ref p) H'
theorem sS:bf ["ready","called","many","left","place","gone"] AH (aK oZ):=(by walk_at "c")
theorem Ep(F:iT K "sent_home" "sent_home" oZ f fd)(B:Bi mg):bI P w K mg base gQ (k+1) f fd AH Rt:=by
 refine F.ok sS (hbody:=(0:))
 obtain⟨r,n,b,cs,rfl,h1,hlen,q⟩:=h;have ND:=sS.nd;refine⟨_,(aA (aW (i:=3) (pt (vh) B.list jK (ao (pv 1) ak))) (aA (gK PassesOwn.never rfl (ZM B.reversed B.range (ao (pb (cX (K:=K) rfl) B.len fQ (ao (pv 3) ak)) ak)) (aG (i:=4)) (aA (aW (i:=5) (pb (cW rfl) B.min iR (ao (bu aZ (pv 3) (pv 4)) (ao (pv 2) ak)))) (aA (VV (pv 3) (pv 4) TY (pv 5) Kh set_list) (aH (Eh (i:=2) ND rfl (by walk_at "o") (pv 5) Kh))))) (aH (bw (bx (ao (aO dY (pv 0) (pv 2)) (ao (pt (jf) B.tuple gW (ao (pv 3) ak)) ak))))))),?_⟩
 ext;refine⟨b,_,rfl,h1,fun p1 f1=>?_⟩;have s1:=aP f1 (HO.lst (cs.map V.int));have e1:upd H p1 (HO.lst (cs.map V.int)) p1=some (.lst (cs.map V.int)):=aB;generalize upd H p1 (HO.lst (cs.map V.int))=H1 at s1 e1 ⊢;rw[Rh];ext;refine⟨p1,_,rfl,.inl (cG.of e1),?_⟩;rw[bW];refine VK'.of (n:=cs.length) rfl ∅ (fun i σ H'=>∃o4 o5:Option V,σ=[some (.int r),some (.ref b),some (.int (bA (cs.drop (cs.length-i)) n).2),some (.ref p1),o4,o5]/\H' p1=some (.lst ((cs.take (cs.length-i)++(bA (cs.drop (cs.length-i)) n).1).map V.int))/\aL H H')
  ⟨_,_,by rw[Nat.sub_zero,GQ]; rfl,by rw[Nat.sub_zero,GQ,pH]; simpa[bA] using e1,s1⟩ ?_ ?_
 ·rintro i σ H2 hi ⟨o4,o5,rfl,h2,s2⟩;obtain⟨j,ej⟩:∃j:Nat,cs.length-i=j+1:=⟨cs.length-i-1,∅⟩
  have ej2:cs.length-(i+1)=j:=by omega
  have ei:(cs.length:Int)-1-(i:Nat)=(j:Nat):=by omega
  rw[ej] at h2;rw[ei,ej,ej2];have hj:j<cs.length:=by omega
  have dj:cs.drop j=cs[j]::cs.drop (j+1):=Hf hj;have tj:cs.take (j+1)=cs.take j++[cs[j]]:=by rw[Cm,dC hj]; rfl
  rw[dj,bA];generalize bA (cs.drop (j+1)) n=gh at h2 ⊢;rw[tj] at h2;generalize cs[j]=cj at h2 ⊢;have lt:(cs.take j).length=j:=by rw[k_]; omega
  have gj:((cs.take j++[cj]++gh.1).map V.int)[j]?=some (.int cj):=by
   rw[cM,GX,Ef ∅,lt,Cj]; rfl
  ext;refine Ix.lst h2 (aV gj) ?_;ext;refine⟨p1,_,j,_,rfl,rfl,h2,gj,?_⟩;ext;refine⟨p1,_,_,j,rfl,rfl,h2,Fb (by rw[bW,dg,dg,lt]; show j<j+1+_; omega),?_⟩
  refine⟨_,rfl,_,_,rfl,rfl,_,_,rfl,?_,fun z o w=>?_⟩
  ·rw[aB]
   congr 2
   have e:cs.take j++[cj]++gh.1=cs.take j++(cj::gh.1):=by simp
   rw[e,ig,ig,List.set_append_right _ _ (by rw[bW]; omega),bW,lt,Cj]
   rfl
  ·rw[aJ (cB w f1)];exact s2 _ _ w
 ·rintro σ H2 ⟨o4,o5,rfl,h2,s2⟩;rw[Cj,Hi,List.take_zero,Hm] at h2;rw[Cj,Hi];ext;refine⟨p1,_,rfl,h2,fun p3 f3=>?_⟩;have s3:=aP f3 (HO.tup ((bA cs n).1.map V.int));have e3:upd H2 p3 (HO.tup ((bA cs n).1.map V.int)) p3=some (.tup ((bA cs n).1.map V.int)):=aB;generalize upd H2 p3 (HO.tup ((bA cs n).1.map V.int))=H3 at s3 e3 ⊢;refine⟨⋯,fun p4 H4 f4 s4 e4=>?_⟩
  exact q p4 p3 H4 (s2.trans (s3.trans s4)) e4 (s4 _ _ e3)
def dM(x:gm)(st:jk)(ch:Int):jk:=
 if ch=0 then st else if 0<ch then { st with cs:=st.cs.take x.a++[st.cs.getD x.a 0+ch]++st.cs.drop (x.a+1),t:=x.u }
 else { st with r:=st.r-(bA st.cs (-ch)).2,cs:=(bA st.cs (-ch)).1,t:=x.d }
def Jy:Sp:=fun vs H Q _=>∃(v u:V)(x:gm)(st:jk)(ch:Int),vs=[v,u,.int ch]/\At H (dh x) v/\At H (n_ st) u/\Uz x/\FZ st/\∀u' H',aL H H'->At H' (n_ (dM x st ch)) u'->Q u' H'
theorem oM:bf ["post","stand","change","late","rests","wait","ready","called","since","rest","seen"] AI (aK lK):=(by walk_at "c")
theorem yJ(F:iT K "with_change" "with_change" lK f fd)(B:Bi mg)(pY:Ct P w K mg base k "sent_home" AH Rt):bI P w K mg base gQ (k+1) f fd AI Jy:=by
 refine F.ok oM (hbody:=(0:))
 obtain⟨v,u,x,st,ch,rfl,a1,a2,hP,hS,q⟩:=h;have ND:=oM.nd;refine⟨_,(aA (b_ (bc fW (pv 2) aq (bj _)) (aH (bw (pv 1))) bD) (aA (pJ (i:=3) (j:=4) rfl ND rfl rfl ⋯ rfl rfl (ao (bu aZ (pv 0) aq) (ao (bu aZ (pv 0) aq) ak)) (by rfl)) (aA (cI (pv 1) (bL (K:=K) (n:=6) rfl rfl (aF (aG (i:=5)) (aF (aG (i:=6)) (aF (aG (i:=7)) (aF (aG (i:=8)) (aF (aG (i:=9)) (aF (aG (i:=10)) bG)))))))) (aA (b_ (bc pK (pv 2) aq (bj _)) (aA (aW (i:=7) (aO lC (aO lC (cR gY (pv 7) dN (dq (pv 3))) (bx (ao (aO bz (bu aZ (pv 7) (pv 3)) (pv 2)) ak))) (cR gY (pv 7) (dq (aO bz (pv 3) aq)) dN))) (aH (aW (i:=9) (bu aZ (pv 4) aq)))) (aA (cI (pf pY hr (ao (pv 6) (ao (pv 7) (ao (R7 Jo (pv 2)) ak)))) (bL (K:=K) (n:=2) rfl rfl (aF (aG (i:=6)) (aF (aG (i:=7)) bG)))) (aH (aW (i:=9) (bu aZ (pv 4) aq))))) (aH (bw (bx (ao (pv 5) (ao (pv 6) (ao (pv 7) (ao (pv 8) (ao (pv 9) (ao (pv 10) ak))))))))))))),?_⟩
 ext;refine cA (fun c1=>?_) (fun c1=>?_)
 ·have:=q u H (aL.refl H);unfold dM at this;rw[aX (rC c1)] at this;exact this a2
 have c1':=wA c1;obtain⟨pa,pb,pc,pd,rfl,p1,p2⟩:=uX a1;obtain⟨sa,sb,sc,rfl,g1,g2,g3⟩:=qd a2;have ha4:=hP.a;have hc5:=hS.c;refine Ix.tup p1 (aV (j:=3) rfl) (Ix.tup p1 (aV (j:=5) rfl) ⟨_,_,rfl,?_⟩);refine⟨sa,_,rfl,eX.of g1,rfl,?_⟩;ext;refine cA (fun c2=>?_) (fun c2=>?_)
 ·have c2':=rC c2
  have ga:(st.cs.map V.int)[x.a]?=some (.int (st.cs.getD x.a 0)):=by
   rw[cM,dC ∅,iV,dC ∅]; rfl
  refine⟨sb,_,rfl,g2,fun p3 H3 s3 e3=>?_⟩;rw[vg ∅,rB] at e3
  refine Ix.tup (s3 _ _ g2) (aV ga) ?_;ext;refine⟨⋯,fun p4 H4 f4 s4 e4=>?_⟩
  refine⟨p3,p4,_,_,rfl,rfl,s4 _ _ e3,e4,jE (a_ (by simp; omega)),fun p5 H5 s5 e5=>?_⟩
  ext;have Vt:=s3.trans (s4.trans s5);refine⟨sb,_,rfl,Vt _ _ g2,fun p6 H6 s6 e6=>?_⟩;rw[pX ∅] at e6
  refine⟨p5,p6,_,_,rfl,rfl,s6 _ _ e5,e6,jE (a_ (by simp; omega)),fun p7 H7 s7 e7=>?_⟩
  have s37:=Vt.trans (s6.trans s7);ext;refine Ix.tup (s37 _ _ p2) (aV (j:=0) rfl) ⟨⋯,fun p8 H8 f8 s8 e8=>?_⟩
  have s38:=s37.trans s8;refine q (.ref p8) H8 s38 ?_;unfold dM;rw[aQ c1',aX c2'];refine At.tup e8 (aj.cons (At.int _) (aj.cons (At.int _) (aj.cons (At.tup (s8 _ _ e7) ?_) (aj.cons (At.int _) (aj.cons (At.int _) (aj.cons (g3.mono s38) aj.nil))))));have e:(((x.a:Int)+1).toNat)=x.a+1:=by omega
  rw[e];have:=bU (H:=H8) (st.cs.take x.a++[st.cs.getD x.a 0+ch]++st.cs.drop (x.a+1));simpa using this
 ·have c2':=wA c2;refine⟨st.r,-ch,sb,st.cs,rfl,g2,∅,fun p3 b3 H3 s3 e3 e4=>?_⟩
  refine⟨p3,_,rfl,eX.of e3,rfl,?_⟩;ext;refine Ix.tup (s3 _ _ p2) (aV (j:=1) rfl) ⟨⋯,fun p8 H8 f8 s8 e8=>?_⟩
  have s38:=s3.trans s8;refine q (.ref p8) H8 s38 ?_;unfold dM;rw[aQ c1',aQ ∅]
  exact At.tup e8 (aj.cons (At.int _) (aj.cons (At.int _) (aj.cons (At.tup (s8 _ _ e4) (bU _)) (aj.cons (At.int _) (aj.cons (At.int _) (aj.cons (g3.mono s38) aj.nil))))))
def cO(x:gm)(st:jk)(come:Int):Int:=if(if 0>x.m-st.w then 0 else x.m-st.w)<come then(if 0>x.m-st.w then 0 else x.m-st.w) else come
def cZ(st:jk):Int:=st.r+st.cs.getD 0 0
def eQ(x:gm)(st:jk)(come:Int):Int:=if cZ st*x.p<st.w+cO x st come then cZ st*x.p else st.w+cO x st come
def du(x:gm)(st:jk)(come:Int):List (List Int):=[come,eQ x st come,st.w+cO x st come-eQ x st come]::st.us
def dZ(x:gm)(st:jk)(come:Int):jk:=⟨st.w+cO x st come-eQ x st come,cZ st,st.cs.drop 1++[0],uG x.e st.s,if 0>st.t-1 then 0 else st.t-1,(du x st come).take 3⟩
def oE(x:gm)(st:jk)(come fr:Int):Int:=if lX x.e st.s st.t=true then xm x (cZ st+(st.cs.drop 1++[0]).sum) fr (du x st come) else 0
def Rx:Sp:=fun vs H Q _=>∃(v u:V)(x:gm)(st:jk)(come fr:Int),vs=[v,u,.int come,.int fr]/\At H (dh x) v/\At H (n_ st) u/\Uz x/\FZ st /\
 ∀p u' H',aL H H'->At H' (n_ (dM x (dZ x st come) (oE x st come fr))) u'->H' p=some (.tup [u',.int (eQ x st come),.int (come-cO x st come),.int (oE x st come fr)])->Q (.ref p) H'
theorem Mg:bf ["post","stand","come","free","pace","room","wait","ready","called","since","rest","seen","taken","done","newest","looks","moved","change"] AJ (aK JF):=(by walk_at "c")
theorem Ia{x:gm}{st:jk}{come:Int}(h:FZ st):FZ (dZ x st come):=by
 refine⟨?_,?_,fun y hy=>?_⟩
 ·show(st.cs.drop 1++[0]).length=5;have:=h.c;simp; omega
 ·show((du x st come).take 3).length=3;have:=h.u;unfold du;simp; omega
 ·have hy:=wB hy;unfold du at hy;rcases bN.mp hy with z | z
  ·rw[z]; rfl
  ·exact h.l y z
theorem MJ{T:Addr}{tk:Tok}(F:Li K "beat" "beat" JF f fd T 12 tk)(B:Bi mg)(O:Co K mg)(gA:Ct P w K mg base k "since_and_look" ["post","since","rest"] LC)(lG:Ct P w K mg base k "change_of" AG Gw)(d_:Ct P w K mg base k "hands_of" ["stand"] wW)
  (jj:Ct P w K mg base k "with_change" AI Jy):bI P w K mg base gQ (k+1) f fd AJ Rx:=by
 refine F.ok Mg (hbody:=(0:))
 obtain⟨v,u,x,st,come,fr,rfl,a1,a2,hP,hS,q⟩:=h;have ND:=Mg.nd;refine⟨_,(aA (cI (cR gY (pv 0) dN (dq aq)) (bL (K:=K) (n:=2) rfl rfl (aF (aG (i:=4)) (aF (aG (i:=5)) bG)))) (aA (cI (pv 1) (bL (K:=K) (n:=6) rfl rfl (aF (aG (i:=6)) (aF (aG (i:=7)) (aF (aG (i:=8)) (aF (aG (i:=9)) (aF (aG (i:=10)) (aF (aG (i:=11)) bG)))))))) (aA (Eh (i:=7) ND rfl (by walk_at "o") (bu aZ (pv 8) aq) Ti) (aA (aW (i:=8) (aO lC (cR gY (pv 8) (dq aq) dN) (bx (ao aq ak)))) (aA (aW (i:=12) (pb (cW rfl) B.min iR (ao (pv 2) (ao (pb (gw rfl) B.max kZ (ao (aO dY (pv 5) (pv 6)) (ao aq ak))) ak)))) (aA (Eh (i:=6) ND rfl (by walk_at "o") (pv 12) Ti) (aA (aW (i:=13) (pb (cW rfl) B.min iR (ao (pv 6) (ao (aO il (pv 7) (pv 4)) ak)))) (aA (Eh (i:=6) ND rfl (by walk_at "o") (pv 13) Kh) (aA (aW (i:=14) (aO lC (bx (ao (bx (ao (pv 2) (ao (pv 13) (ao (pv 6) ak)))) ak)) (pv 11))) (aA (cI (pf gA hr (ao (pv 0) (ao (pv 9) (ao (pv 10) ak)))) (bL (K:=K) (n:=2) rfl rfl (aF (aG (i:=9)) (aF (aG (i:=15)) bG)))) (aA (aW (i:=16) (bx (ao (pv 6) (ao (pv 7) (ao (pv 8) (ao (pv 9) (ao (pb (gw rfl) B.max kZ (ao (aO dY (pv 10) aq) (ao aq ak))) (ao (cR gY (pv 14) dN (dq (El O.FW))) ak)))))))) (aA (aW (i:=17) (cg (dX (pv 15)) (pf lG hr (ao (pv 0) (ao (pf d_ hr (ao (pv 16) ak)) (ao (pv 14) (ao (pv 3) ak))))) aq)) (aH (bw (bx (ao (pf jj hr (ao (pv 0) (ao (pv 16) (ao (pv 17) ak)))) (ao (pv 13) (ao (aO dY (pv 2) (pv 12)) (ao (pv 17) ak))))))))))))))))))),?_⟩
 obtain⟨pa,pb,pc,pd,rfl,p1,p2⟩:=uX a1;obtain⟨sa,sb,sc,rfl,g1,g2,g3⟩:=qd a2;have hc5:=hS.c;have hpp:=hP.p
 have gc0:(st.cs.map V.int)[0]?=some (.int (st.cs.getD 0 0)):=by
  rw[cM,dC ∅,iV,dC ∅]; rfl
 ext;refine⟨pa,_,rfl,p1,fun q1 H1 s1 e1=>?_⟩;rw[vg ⋯] at e1
 replace e1:H1 q1=some (.tup [.int x.p,.int x.m]):=e1
 refine⟨q1,_,rfl,eX.of e1,rfl,?_⟩;ext;refine⟨sa,_,rfl,eX.of (s1 _ _ g1),rfl,?_⟩;ext;refine⟨_,rfl,Ix.tup (s1 _ _ g2) (aV gc0) ⟨_,_,rfl,rfl,?_⟩⟩;refine⟨sb,_,rfl,s1 _ _ g2,fun q2 H2 s2 e2=>?_⟩;rw[pX ⋯] at e2
 have s12:=s1.trans s2;refine⟨⋯,fun q3 H3 f3 s3 e3=>?_⟩
 refine⟨q2,q3,_,_,rfl,rfl,s3 _ _ e2,e3,jE (a_ (by simp; omega)),fun q4 H4 s4 e4=>?_⟩
 have Vu:=s12.trans (s3.trans s4);ext;refine⟨_,rfl,_,_,rfl,rfl,.inr ∅,_,rfl,_,_,rfl,rfl,⋯,fun q5 H5 f5 s5 e5=>⟨⋯,fun q6 H6 f6 s6 e6=>?_⟩⟩
 replace e5:H5 q5=some (.tup [.int come,.int (eQ x st come),.int (st.w+cO x st come-eQ x st come)]):=e5
 obtain⟨sc',us',ec,gu,au⟩:=bB g3;cases ec;have Mi:=Vu.trans (s5.trans s6);have lus:us'.length=3:=by have:=au.length; rw[bW,hS.u] at this; exact this
 refine⟨q6,sc,_,_,rfl,rfl,e6,Mi _ _ gu,jE (a_ (by simp; omega)),fun q7 H7 s7 e7=>?_⟩
 have s17:=Mi.trans s7;have a7:At H7 (Jr (du x st come)) (.ref q7):=At.tup e7 (aj.cons (At.tup ((s6.trans s7) _ _ e5) (bU [come,eQ x st come,st.w+cO x st come-eQ x st come])) (au.mono s17))
 have hN:my (du x st come):=⟨by show st.us.length+1=4; rw[hS.u],fun y hy=>by
  rcases bN.mp hy with z | z
  ·rw[z]; rfl
  ·exact hS.l y z⟩
 refine⟨.ref pa,x,st.s,st.t,rfl,a1.mono s17,fun q8 H8 s8 e8=>?_⟩;refine⟨q8,_,rfl,eX.of e8,rfl,?_⟩;ext;have s18:=s17.trans s8;obtain⟨q7',nws,en,gn,an⟩:=bB (a7.mono s8);cases en;refine⟨q7,_,rfl,gn,fun q9 H9 s9 e9=>?_⟩;rw[vg ⋯] at e9
 have s19:=s18.trans s9;refine⟨⋯,fun O2 Aa f10 wu e10=>?_⟩
 have acf:=s19.trans wu;have e4':H4 q4=some (.tup ((st.cs.drop 1++[0]).map V.int)):=by rw[e4]; simp
 have ab8:aL H4 Aa:=s5.trans (s6.trans (s7.trans (s8.trans (s9.trans wu))))
 have am:At Aa (n_ (dZ x st come)) (.ref O2):=by
  refine At.tup e10 (aj.cons (At.int _) (aj.cons (At.int _) (aj.cons (At.tup (ab8 _ _ e4') (bU _)) (aj.cons (At.int _) (aj.cons (At.int _) (aj.cons (At.tup (wu _ _ e9) ?_) aj.nil))))));show aj Aa (((du x st come).take 3).map h_) _;rw[Ck];exact(an.take 3).mono (s9.trans wu)
 have fin:∀(c:Int)(Gd:Hp),oE x st come fr=c->aL Aa Gd->Jy [.ref pa,.ref O2,.int c] Gd (fun y H1=>4<=sizeLine/\∀p H',H1 p=none->aL H1 H'->H' p=some (.tup [y,.int (eQ x st come),.int (come-cO x st come),.int c])->Q (.ref p) H') E0:=fun c Gd ec UW=>by
  subst ec;have ace:=acf.trans UW;exact⟨.ref pa,.ref O2,x,dZ x st come,_,rfl,a1.mono ace,am.mono UW,hP,Ia hS,fun u' H12 ae1 a12=>⟨⋯,fun q13 H13 f13 pF Nz=>q q13 u' H13 (ace.trans (ae1.trans pF)) (a12.mono pF) Nz⟩⟩
 refine cA (fun c1=>?_) (fun c1=>?_)
 ·refine⟨.ref O2,_,O2,cZ st,q4,st.cs.drop 1++[0],_,rfl,rfl,e10,ab8 _ _ e4',?_⟩;refine⟨.ref pa,.ref q7,x,_,fr,du x st come,rfl,a1.mono acf,a7.mono (s8.trans (s9.trans wu)),hP,hN,fun Gd UW=>?_⟩;exact fin _ Gd (by unfold oE; rw[aX c1]) UW
 ·exact fin 0 Aa (by unfold oE; rw[aQ (by rw[c1]; decide)]) (aL.refl _)
local macro_rules | `(tactic| walk_at "cap")=>`(tactic| simp only[bR,iI,List.map_nil,List.getElem?_cons_zero,List.getElem?_cons_succ,Option.join_some])
def Rp(K:Frag):Sp:=fun vs H Q _=>∃(s:Addr)(ns:List Int)(i:Int),vs=[.ref s,.int i]/\cG K H s (ns.map V.int)/\0<=i/\i<=1000/\∀p H',H p=none->aL H H'->Tp H' p 0->Q (.ref p) H'
theorem B_:bf ["_law_script","_law_k","_law_cell"] AK (aK yd):=(by walk_at "c")
theorem Pa(F:iT K "_law_tape" "_law_tape" yd f fd)(B:Bi mg):bI P w K mg base gQ (k+1) f fd AK (Rp K):=by
 refine F.ok B_ (hbody:=(0:))
 obtain⟨a,ns,i,rfl,hS,h0,h1,q⟩:=h;have ND:=B_.nd;refine⟨_,(aA (aW (i:=2) (cg (bc qI (pv 1) (pb (cX (K:=K) rfl) B.len fQ (ao (pv 0) ak)) (bj _)) (bu M_ (pv 0) (pv 1)) aq)) (aH (bw (R_ (ao (aO il (pb (Ip) B.abs Us (ao (pv 2) ak)) (pt (vo) B.int FP (ao (eG Ss (pb (Ip) B.abs Us (ao (pv 2) ak)) (aO rG aq aq) (bj _)) ak))) (ao (aO bz (aO bz (aO nj (pv 2) aq) (aO il aq (pv 1))) aq) (ao aq ak))))))),?_⟩
 ext;refine⟨a,_,rfl,.inl hS,?_⟩;show ∃Yj j,V.int i=V.int Yj/\V.int ((ns.map V.int).length:Int)=V.int j/\_;ext;have aaL:∀c:Int,0<=(if c<0 then -c else c):=fun c=>by split <;> omega
 have fin:∀(c x y:Int),x=(if c<0 then -c else c)*(if decide (10 ^ Int.toNat 18<=(if c<0 then -c else c))=true then 1 else 0)->y=c % 2305843009213693951+39373*i+17->∀p,H p=none->Q (.ref p) (upd H p (.lst [.int x,.int y,.int 0])):=fun c x y ex ey p hp=>by
  have hx:0<=x:=by
   rw[ex];have nn:=aaL c;generalize (if c<0 then -c else c)=u at nn ⊢
   split
   ·rw[Int.mul_one]; exact nn
   ·rw[Int.mul_zero]; exact Int.le_refl 0
  have h2:=yr c (show(2305843009213693951:Int)≠0 by decide)
  have h3:=Ed c (show(0:Int)<2305843009213693951 by decide)
  exact q p _ hp (aP hp _) ⟨x,y,0,aB,hx,∅,∅,Int.le_refl 0,Int.le_refl 0⟩
 have cm:∀(c:Int)(b:Bool),UJ c (if b=true then 1 else 0):=fun c b=>.inr (by cases b <;> decide)
 refine cA (fun c1=>?_) (fun c1=>?_)
 ·have c1':=rC c1;have hi:i.toNat<ns.length:=by rw[bW] at c1'; omega
  refine⟨a,_,i,.int (ns[i.toNat]),rfl,rfl,hS,?_,?_⟩
  ·have:=aV (xs:=ns.map V.int) (j:=i.toNat) (v:=.int (ns[i.toNat])) (by rw[cM,dC hi]; rfl)
   rwa [show((i.toNat:Nat):Int)=i by omega] at this
  ·ext;refine⟨⟨⋯,⋯,⋯⟩,cm _ _,⋯,.inl ⋯,(by show 3<=sizeLine; decide),fun p hp=>?_⟩
   exact fin _ _ _ rfl rfl p hp
 ·refine⟨⟨⋯,⋯,⋯⟩,cm _ _,⋯,.inl ⋯,(by show 3<=sizeLine; decide),fun p hp=>?_⟩
  exact fin 0 _ _ rfl rfl p hp
def gH:Sp:=fun vs H Q _=>∃(a:Addr)(m:Int)(n:Nat),vs=[.ref a,.int m]/\Tp H a n/\n<=1000000000/\0<m/\m<1000000000000000/\∀v H',0<=v->v<m->Tp H' a (n+1)->SX a H H'->Q (.int v) H'
theorem Cd:bf ["_law_tape_here","_law_many","_law_found","_law_once","_law_twice"] AL (aK yf):=(by walk_at "c")
theorem Pg(F:iT K "_law_draw" "_law_draw" yf f fd)(B:Bi mg):bI P w K mg base gQ (k+1) f fd AL gH:=by
 refine F.ok Cd (hbody:=(0:))
 obtain⟨a,m,n,rfl,⟨x,y,z,hT,hx,hy,hy2,hz,hz2⟩,hn,hm,hm2,q⟩:=h;have ND:=Cd.nd;refine⟨_,(aA (b_ (bc pK (bu aZ (pv 0) aq) aq (bj _)) (aA (aW (i:=2) (aO nj (bu aZ (pv 0) aq) (pv 1))) (aA (cI (aO yI (bu aZ (pv 0) aq) (pv 1)) (jw (pv 0) aq set_list)) (aH (bw (pv 2))))) bD) (aA (cI (aO bz (bu aZ (pv 0) aq) aq) (jw (pv 0) aq set_list)) (aA (aW (i:=3) (aO nj (aO rG (aO bz (bu aZ (pv 0) aq) (aO il aq (bu aZ (pv 0) aq))) aq) aq)) (aA (aW (i:=4) (aO nj (aO il (aO bz (pv 3) (bu aZ (pv 0) aq)) (aO bz (aO bz (aO nj (pv 3) aq) aq) (bu aZ (pv 0) aq))) aq)) (aH (bw (aO nj (aO Wk (aO nj (aO bz (aO il (pv 4) aq) (pv 3)) aq) aq) (pv 1)))))))),?_⟩
 ext;refine Ix.lst hT (aV (j:=0) rfl) ?_;ext;refine cA (fun c1=>?_) (fun c1=>?_)
 ·refine Ix.lst hT (aV (j:=0) rfl) ?_;ext;refine⟨hm,Ix.lst hT (aV (j:=0) rfl) ?_⟩;ext;refine⟨⟨hm,Int.lt_trans hm2 ⋯⟩,a,_,0,0,rfl,rfl,hT,rfl,?_⟩
  refine q _ _ (yr _ ∅) (Ed _ hm) ⟨x / m,y,z,aB,Int.ediv_nonneg hx ∅,hy,hy2,hz,∅⟩ SX.upd
 ·refine Ix.lst hT (aV (j:=2) rfl) ?_;ext;refine⟨a,_,2,2,rfl,rfl,hT,rfl,?_⟩;have hT2:upd H a (.lst [.int x,.int y,.int (z+1)]) a=some (.lst [.int x,.int y,.int (z+1)]):=aB;show GJ (V.ref a) (V.int 1) (upd H a (.lst [.int x,.int y,.int (z+1)])) _;generalize eH:upd H a (.lst [.int x,.int y,.int (z+1)])=H2 at hT2 ⊢;have sx:SX a H H2:=by rw[<- eH]; exact SX.upd
  refine Ix.lst hT2 (aV (j:=1) rfl) (Ix.lst hT2 (aV (j:=2) rfl) ?_);ext;refine⟨.inl ⋯,⟨⋯,⋯,∅⟩,⋯,Ix.lst hT2 (aV (j:=2) rfl) ?_⟩
  generalize eo:(y+39373*(z+1)) ^ Int.toNat 5 % 2147483647=o;have o1:0<=o:=by rw[<- eo]; exact yr _ ⋯
  have o2:o<2147483647:=by rw[<- eo]; exact Ed _ ⋯
  ext;refine⟨⋯,Ix.lst hT2 (aV (j:=2) rfl) ?_⟩
  ext;have m1:=yr o (show(40009:Int)≠0 by decide)
  have m2:=Ed o (show(0:Int)<40009 by decide)
  refine⟨.inl ∅,⋯,?_⟩
  generalize et:(o+(z+1))*(o % 40009+7+(z+1)) % 2147483629=t;have t1:0<=t:=by rw[<- et]; exact yr _ ⋯
  have t2:t<2147483629:=by rw[<- et]; exact Ed _ ⋯
  refine⟨.inl ∅,⋯,⟨⋯,⋯⟩,hm,?_⟩
  exact q _ _ (yr _ ∅) (Ed _ hm) ⟨x,y,z+1,hT2,hx,hy,hy2,∅,∅⟩ sx
theorem cF.of{a:Addr}{m:Int}{n:Nat}{H:Hp}{Q:VK}{E:XK}(t:Tp H a n)(hn:n<=1000000000)(h1:0<m)(h2:m<1000000000000000)(q:∀v H',0<=v->v<m->Tp H' a (n+1)->SX a H H'->Q (.int v) H'):gH ([.ref a,.int m]++[]) H Q E:=⟨a,m,n,rfl,t,hn,h1,h2,q⟩
def qe:Sp:=fun vs H Q _=>∃(a:Addr)(n:Nat),vs=[.ref a]/\Tp H a n/\n<=900000000/\∀v H',0<=v->v<=1000000000000->Tp H' a (n+4)->SX a H H'->Q (.int v) H'
theorem Dv.of{a:Addr}{n:Nat}{H:Hp}{Q:VK}{E:XK}(t:Tp H a n)(hn:n<=900000000)(q:∀v H',0<=v->v<=1000000000000->Tp H' a (n+4)->SX a H H'->Q (.int v) H'):qe ([.ref a]++[]) H Q E:=⟨a,n,rfl,t,hn,q⟩
theorem xP:bf ["_law_tape_here","_law_way","_law_great"] AM (aK uJ):=(by walk_at "c")
theorem JX(F:iT K "_law_units" "_law_units" uJ f fd)(B:Bi mg)(aM:Ct P w K mg base k "_law_draw" AL gH):bI P w K mg base gQ (k+1) f fd AM qe:=by
 refine F.ok xP (hbody:=(0:))
 obtain⟨a,n,rfl,tp,hn,q⟩:=h;have ND:=xP.nd;refine⟨_,(aA (aW (i:=1) (pf aM hr (ao (pv 0) (ao aq ak)))) (aA (b_ (bc qI (pv 1) aq (bj _)) (aH (bw (pf aM hr (ao (pv 0) (ao aq ak))))) bD) (aA (b_ (bc fW (pv 1) aq (bj _)) (aH (bw (pf aM hr (ao (pv 0) (ao aq ak))))) bD) (aA (aW (i:=2) (aO bz (aO il (pf aM hr (ao (pv 0) (ao (aO rG aq aq) ak))) (aO rG aq aq)) (pf aM hr (ao (pv 0) (ao (aO rG aq aq) ak))))) (aH (bw (cg (bc fW (pv 1) aq (bj _)) (pv 2) (aO dY (aO rG aq aq) (aO nj (pv 2) aq))))))))),?_⟩
 ext;refine cF.of tp ∅ ⋯ ⋯ fun v1 H1 l1 u1 t1 s1=>?_
 ext;refine cA (fun c1=>?_) (fun c1=>?_)
 ·refine cF.of t1 ∅ ⋯ ⋯ fun v2 H2 l2 u2 t2 s2=>?_
  exact q v2 H2 l2 ∅ (t2.mono ∅) (s1.trans s2)
 ·refine cA (fun c2=>?_) (fun c2=>?_)
  ·refine cF.of t1 ∅ ⋯ ⋯ fun v2 H2 l2 u2 t2 s2=>?_
   exact q v2 H2 l2 ∅ (t2.mono ∅) (s1.trans s2)
  ·refine⟨⟨⋯,⋯,⋯⟩,?_⟩
   refine cF.of t1 ∅ ⋯ ⋯ fun v2 H2 l2 u2 t2 s2=>?_
   ext;have e6:(10:Int) ^ Int.toNat 6=1000000:=by decide
   have Qh:(10:Int) ^ Int.toNat 12=1000000000000:=by decide
   rw[e6] at u2;refine⟨⟨⋯,⋯,⋯⟩,.inr ⋯,⟨⋯,⋯,⋯⟩,?_⟩
   refine cF.of t2 ∅ ⋯ ⋯ fun v3 H3 l3 u3 t3 s3=>?_
   rw[e6] at u3;ext;rw[e6,Qh];refine cA (fun c3=>?_) (fun c3=>?_)
   ·exact q _ H3 ∅ ∅ (t3.mono ∅) (s1.trans (s2.trans s3))
   ·have m1:=yr (v2*1000000+v3) (show(3:Int)≠0 by decide)
    have m2:=Ed (v2*1000000+v3) (show(0:Int)<3 by decide)
    exact⟨⟨⋯,⋯,⋯⟩,⋯,q _ H3 ∅ ∅ (t3.mono ∅) (s1.trans (s2.trans s3))⟩
def U12(i:Int):Prop:=0<=i/\i<=1000000000000
def Yx(u:List Int):Prop:=∃a b c,u=[a,b,c]/\U12 a/\U12 b/\U12 c
structure StL(x:jk):Prop where
 w:U12 x.w
 r:0<=x.r
 c:x.cs.length=5
 cn:∀y∈x.cs,0<=y
 sm:x.r+x.cs.sum<=12
 s:0<=x.s/\x.s<=5
 t:0<=x.t/\x.t<=9
 u:x.us.length=3
 ul:∀y∈x.us,Yx y
def Lz:Sp:=fun vs H Q _=>∃(a:Addr)(n:Nat),vs=[.ref a]/\Tp H a n/\n<=100000000/\∀p x H',StL x->At (hid a H') (n_ x) (.ref p)->Tp H' a (n+60)->SX a H H'->Q (.ref p) H'
theorem xQ:bf ["_law_tape_here","_law_left","_law_called","_law_k","_law_seen"] AM (aK uK):=(by walk_at "c")
theorem JZ(F:iT K "_law_stand" "_law_stand" uK f fd)(B:Bi mg)(aM:Ct P w K mg base k "_law_draw" AL gH)(fJ:Ct P w K mg base k "_law_units" AM qe) :
  bI P w K mg base gQ (k+1) f fd AM Lz:=by
 refine F.ok xQ (hbody:=(0:))
 obtain⟨a,n,rfl,tp,hn,q⟩:=h;have ND:=xQ.nd;refine⟨_,(aA (pJ (i:=1) (j:=2) rfl ND rfl rfl ⋯ rfl rfl (ao aq (ao (R_ ak) ak)) (by rfl)) (aA (gK PassesOwn.never rfl (dJ (by rfl) B.range (ao aq ak)) (aG (i:=3)) (aA (cQ (ik (K:=K) rfl PySem.F.plainAttrs_list PySem.F.slot_list_append PySem.F.type_list_append eN (pv 2) (ao (pf aM hr (ao (pv 0) (ao (aO bz (pb (cW rfl) B.min iR (ao (pv 1) (ao aq ak))) aq) ak))) ak))) (aH (aW (i:=1) (aO dY (pv 1) (bu aZ (pv 2) (pv 3))))))) (aA (aW (i:=4) (pt (jf) B.tuple gW (ao (dR (N':=["_law_k","_law_tape_here"]) (js:=[0]) rfl (dJ (by rfl) B.range (ao aq ak)) sr.mk1 rfl ⋯ rfl (fun fp s' H'=>(R8 (ao (pf fJ hr (ao (pv 1) ak)) (ao (pf fJ hr (ao (pv 1) ak)) (ao (pf fJ hr (ao (pv 1) ak)) ak)))))) ak))) (aH (bw (R8 (ao (pf fJ hr (ao (pv 0) ak)) (ao (pf aM hr (ao (pv 0) (ao (aO bz (pv 1) aq) ak))) (ao (pt (jf) B.tuple gW (ao (pv 2) ak)) (ao (pf aM hr (ao (pv 0) (ao aq ak))) (ao (pf aM hr (ao (pv 0) (ao aq ak))) (ao (pv 4) ak)))))))))))),?_⟩
 ext;refine⟨gU _,fun p hp=>⟨_,_,rfl,?_⟩⟩;have pa:p≠a:=tp.ne hp;refine Yn (n:=5) (fun R hR=>hR) ⋯ (fun i σ H'=>∃(left:Int)(cs:List Int)(o3:Option V),σ=[some (.ref a),some (.int left),some (.ref p),o3,none]/\H' p=some (.lst (cs.map V.int))/\cs.length=i/\(∀c∈cs,0<=c)/\cs.sum+left=12/\(0<=left/\left<=12)/\Tp H' a (n+i)/\SX a H H')
  ⟨12,[],none,rfl,aB,rfl,fun c h=>by simp at h,rfl,⟨⋯,⋯⟩,tp.same (aP hp _),SX.of (aP hp _)⟩ ?_ ?_
 ·rintro i σ H1 hi ⟨left,cs,o3,rfl,h1,h2,h3,h4,h5,t1,s1⟩;ext;refine⟨.inl ⟨rfl,_,cG.of h1⟩,?_⟩;refine cF.of t1 ∅ (by split <;> omega) (by split <;> omega) fun v H2 l2 u2 t2 s2=>?_
  have h1':=s2.get pa h1;refine⟨p,_,_,rfl,rfl,h1',by rw[bW]; exact a_ ∅,?_⟩
  have e:(cs.map V.int++[V.int v])=(cs++[v]).map V.int:=by simp
  rw[e];refine Ix.lst aB (v:=.int v) ?_ ?_
  ·have:=aV (xs:=(cs++[v]).map V.int) (j:=i) (v:=.int v) (by subst h2; simp)
   rw[yw]; exact this
  ·ext;have lv:v<=left:=by split at u2 <;> omega
   refine⟨left-v,cs++[v],_,rfl,aB,by rw[dg,h2]; rfl,fun c hc=>?_,?_,∅,?_,?_⟩
   ·rcases iJ.mp hc with z | z
    ·exact h3 c z
    ·rw[iU.mp z]; exact l2
   ·rw[List.sum_append]; simp; omega
   ·exact t2.eZ pa
   ·exact(s1.trans s2).eZ hp pa
 ·rintro σ H1 ⟨left,cs,o3,rfl,h1,h2,h3,h4,h5,t1,s1⟩;ext;refine Ug (n:=3) (fun R hR=>hR) ⋯ fun acc hacc=>?_
  have ca:acc≠a:=t1.ne hacc;refine⟨fun i ys H'=>∃us:List (List Int),us.length=i/\(∀u∈us,Yx u)/\aj (hid acc (hid a H')) (us.map h_) ys/\ys.length=i/\H' acc=some (.lst ys)/\Tp H' a (n+5+12*i)/\SX a H1 H',?_,?_,?_⟩
  ·exact⟨[],rfl,fun u h=>by simp at h,aj.nil,rfl,aB,t1.eZ ca,(SX.refl a H1).eZ hacc ca⟩
  ·rintro i ys H2 hi ⟨us,l2,u2,a2,y2,c2,t2,s2⟩;show Y9 _ [some _,some (.ref a)] H2 _;ext;refine Dv.of t2 ∅ fun v1 H3 l3 u3 t3 s3=>?_
   refine Dv.of t3 ∅ fun v2 H4 l4 u4 t4 s4=>?_
   refine Dv.of t4 ∅ fun v3 H5 l5 u5 t5 s5=>?_
   refine⟨(by show 3<=sizeLine; decide),fun t ht=>?_⟩
   have s25:=s3.trans (s4.trans s5);have ta:t≠a:=t5.ne ht;have c5:=s25.get ca c2;have tc:t≠acc:=fun z=>by subst z; rw[ht] at c5; cases c5
   refine⟨by rw[aJ (Ne.symm tc)]; exact c5,a_ ∅,us++[[v1,v2,v3]],by rw[dg,l2]; rfl,fun u hu=>?_,?_,by rw[dg,y2]; rfl,aB,?_,?_⟩
   ·rcases iJ.mp hu with z | z
    ·exact u2 u z
    ·rw[iU.mp z]; exact⟨v1,v2,v3,rfl,⟨l3,u3⟩,⟨l4,u4⟩,⟨l5,u5⟩⟩
   ·rw[dD ca,nC,dD ta,dD tc,ig];have fr:(hid acc (hid a H5)) t=none:=by rw[cP tc,cP ta]; exact ht
    refine aj.append ((a2.mono (aL.hid s25)).mono (aP fr _)) (aj.cons (At.tup aB ?_) aj.nil);exact aj.cons (At.int _) (aj.cons (At.int _) (aj.cons (At.int _) aj.nil))
   ·exact((t5.eZ ta).eZ ca).mono ∅
   ·exact(((s2.trans s25).trans (SX.of (aP ht _))).eZ hacc ca)
  ·rintro ys H2 ⟨us,l2,u2,a2,y2,c2,t2,s2⟩;refine⟨acc,ys,rfl,c2,fun l hl=>?_⟩;have la:l≠a:=t2.ne hl
   have A1:At (hid a (upd H2 l (.tup ys))) (.tuple (us.map h_)) (.ref l):=by
    rw[dD la];have fr:hid a H2 l=none:=by rw[cP la]; exact hl
    exact At.tup aB ((a2.mono jH).mono (aP fr _))
   have p2:upd H2 l (.tup ys) p=some (.lst (cs.map V.int)):=by
    have:=s2.get pa h1;rw[aJ (fun z=>by subst z; rw[hl] at this; cases this)]; exact this
   refine Dv.of (t2.eZ la) ∅ fun v3 H3 l3 u3 t3 s3=>?_
   refine cF.of t3 ∅ ∅ ∅ fun v4 H4 l4 u4 t4 s4=>?_
   refine⟨p,_,rfl,s4.get pa (s3.get pa p2),fun m hm=>?_⟩;have ma:m≠a:=t4.ne hm
   have A2:At (hid a (upd H4 m (.tup (cs.map V.int)))) (.tuple (cs.map .int)) (.ref m):=by
    rw[dD ma];exact At.tup aB (bU cs)
   have A1':At (hid a (upd H4 m (.tup (cs.map V.int)))) (.tuple (us.map h_)) (.ref l):=(A1.mono (s3.trans s4)).mono (SX.of (aP hm _));refine cF.of (t4.eZ ma) ∅ ⋯ ⋯ fun v5 H5 l5 u5 t5 s5=>?_
   refine cF.of t5 ∅ ⋯ ⋯ fun v6 H6 l6 u6 t6 s6=>?_
   refine⟨(by show 6<=sizeLine; decide),fun z hz=>?_⟩
   have za:z≠a:=t6.ne hz;have fr:hid a H6 z=none:=by rw[cP za]; exact hz
   have s56:=s5.trans s6;refine q z ⟨v3,v4,cs,v5,v6,us⟩ _ ⟨⟨l3,u3⟩,l4,h2,h3,by show v4+cs.sum<=12; omega,⟨l5,by show v5<=5; omega⟩,⟨l6,by show v6<=9; omega⟩,l2,u2⟩ ?_ ((t6.eZ za).mono ∅) ?_
   ·rw[dD za];exact At.tup aB (aj.cons (At.int _) (aj.cons (At.int _) (aj.cons ((A2.mono s56).mono (aP fr _)) (aj.cons (At.int _) (aj.cons (At.int _) (aj.cons ((A1'.mono s56).mono (aP fr _)) aj.nil))))))
   ·refine SX.trans s1 (SX.trans s2 (SX.trans (SX.of (aP hl _)) (SX.trans s3 (SX.trans s4 (SX.trans (SX.of (aP hm _)) (SX.trans s5 (SX.trans s6 (SX.of (aP hz _)))))))))
theorem Vi{x:gm}{st:jk}{ch:Int}(hx:Uz x)(hs:FZ st):FZ (dM x st ch):=by
 have hc:=hs.c;have ha:=hx.a;unfold dM;split
 ·exact hs
 ·split
  ·refine⟨?_,hs.u,hs.l⟩;simp only[dg,k_,wz,fH,rm];omega
  ·refine⟨?_,hs.u,hs.l⟩;simp only[nD];exact hc
def Ma:Sp:=fun vs H Q _=>∃(v:V)(x:gm),vs=[v]/\At H (dh x) v/\∀u H',aL H H'->At H' (n_ ⟨0,x.lo,[0,0,0,0,0],0,0,[[0,0,0],[0,0,0],[0,0,0]]⟩) u->Q u H'
theorem rF{H:Hp}{x:gm}{v:V}(h:At H (dh x) v):∃a b c d,v=.ref a/\H a=some (.tup [.int x.p,.int x.m,.ref b,.int x.a,.int x.e,.ref c,.ref d])/\H b=some (.tup [.int x.lo,.int x.hi])/\H c=some (.tup [.int x.u,.int x.d])/\At H (m7 x.gD) (.ref d):=by
 obtain⟨a,xs,rfl,h1,h2⟩:=bB h;obtain⟨x0,_,rfl,b0,h2⟩:=aj.aR h2;obtain⟨x1,_,rfl,b1,h2⟩:=aj.aR h2;obtain⟨x2,_,rfl,b2,h2⟩:=aj.aR h2;obtain⟨x3,_,rfl,b3,h2⟩:=aj.aR h2;obtain⟨x4,_,rfl,b4,h2⟩:=aj.aR h2;obtain⟨x5,_,rfl,b5,h2⟩:=aj.aR h2;obtain⟨x6,_,rfl,b6,h2⟩:=aj.aR h2;cases aj.iu h2;unfold At at b0 b1 b3 b4;subst b0 b1 b3 b4;obtain⟨b,ys,rfl,g3,g4⟩:=bB b2;obtain⟨c,zs,rfl,g1,g2⟩:=bB b5;obtain⟨d,ws,rfl,_,_⟩:=bB b6;cases cz (cs:=[x.u,x.d]) g2;cases cz (cs:=[x.lo,x.hi]) g4;exact⟨a,b,c,d,rfl,h1,g3,g1,b6⟩
theorem oN:bf ["post","least","nothing"] ["post"] (aK lL):=(by walk_at "c")
theorem yK(F:iT K "first_stand" "first_stand" lL f fd)(B:Bi mg):bI P w K mg base gQ (k+1) f fd ["post"] Ma:=by
 refine F.ok oN (hbody:=(0:))
 obtain⟨pA,x,rfl,a1,q⟩:=h;have ND:=oN.nd;refine⟨_,(aA (aW (i:=1) (bu aZ (bu aZ (pv 0) aq) aq)) (aA (aW (i:=2) (bx (ao aq (ao aq (ao aq ak))))) (aH (bw (bx (ao aq (ao (pv 1) (ao (bx (ao aq (ao aq (ao aq (ao aq (ao aq ak)))))) (ao aq (ao aq (ao (bx (ao (pv 2) (ao (pv 2) (ao (pv 2) ak)))) ak))))))))))),?_⟩
 obtain⟨pa,pb,pc,pd,rfl,p1,p2,p3,_⟩:=rF a1;ext;refine Ix.tup p1 (v:=.ref pb) rfl (Ix.tup p2 (v:=.int x.lo) rfl ⟨⋯,fun p4 H4 f4 s4 e4=>⟨⋯,fun p5 H5 f5 s5 e5=>⟨⋯,fun p6 H6 f6 s6 e6=>⟨⋯,fun p7 H7 f7 s7 e7=>?_⟩⟩⟩⟩)
 have s47:=s5.trans (s6.trans s7);refine q _ _ (s4.trans s47) ?_;have tri:At H7 (h_ [0,0,0]) (.ref p4):=At.tup (s47 _ _ e4) (bU [0,0,0]);exact At.tup e7 (aj.cons (At.int _) (aj.cons (At.int _) (aj.cons (At.tup ((s6.trans s7) _ _ e5) (bU [0,0,0,0,0])) (aj.cons (At.int _) (aj.cons (At.int _) (aj.cons (At.tup (s7 _ _ e6) (aj.cons tri (aj.cons tri (aj.cons tri aj.nil)))) aj.nil))))))
theorem gk:∀cs:List Int,bH (cs.map PyData.int)=true
 | []=>rfl
 | c::cs=>by show(uy (.int c)&&bH (cs.map .int))=true; rw[gk cs]; rfl
theorem xx:∀us:List (List Int),bH (us.map h_)=true
 | []=>rfl
 | u::us=>by
  show(bH (u.map PyData.int)&&bH (us.map h_))=true;rw[xx us,gk u]; rfl
theorem jD(n:jk):uy (n_ n)=true:=by
 simp only[n_,uy,bH,gk,xx,Bool.and_self]
structure QF(r:jz):Prop where
 is:zW r
 g:r.g∈(["over","under","each"]:List Str)
 z:r.g = "each" -> r.t=0
 t:r.g ≠ "each" -> -12<=r.t/\r.t<=12/\r.t≠0
def Rv:Sp:=fun vs H Q _=>∃(a:Addr)(n:Nat)(b:Bool),vs=[.ref a,.bl b]/\Tp H a n/\n<=800000000/\∀v r H',QF r->At (hid a H') (ym r) v->Tp H' a (n+12)->SX a H H'->Q v H'
def Rg(c:TT)(a b:TE):TE:=tIf c a b
theorem afI{c:TT}{b:TE}:tIf c (qO 6) b=Rg c (qO 6) b:=rfl
theorem Rg.of{c:TT}{a b:TE}{σ:St}{H:Hp}{Q:VK}(R:V->Hp->Prop)(hR:∀v H',R v H'->Q v H')(h:∀N:VK,(∀v H',R v H'->N v H')->tIf c a b σ H N):Rg c a b σ H Q:=h _ hR
theorem Row.of{a:Addr}{n:Nat}{b:Bool}{H:Hp}{Q:VK}{E:XK}(t:Tp H a n)(hn:n<=800000000)(q:∀v r H',QF r->At (hid a H') (ym r) v->Tp H' a (n+12)->SX a H H'->Q v H'):Rv ([.ref a,.bl b]++[]) H Q E:=⟨a,n,b,rfl,t,hn,q⟩
theorem Gx:bf ["_law_tape_here","_law_small","_law_sign","_law_what","_law_span","_law_number","_law_step"] AN (aK DX):=(by walk_at "c")
theorem Sy(F:iT K "_law_row" "_law_row" DX f fd)(B:Bi mg)(aM:Ct P w K mg base k "_law_draw" AL gH)(fJ:Ct P w K mg base k "_law_units" AM qe):bI P w K mg base gQ (k+1) f fd AN Rv:=by
 refine F.ok Gx (hbody:=(0:))
 obtain⟨a,n,b,rfl,tp,hn,q⟩:=h;have ND:=Gx.nd;refine⟨_,(aA (aW (i:=2) (bu aZ (bF (ao fu (ao fu (ao fu ak)))) (pf aM hr (ao (pv 0) (ao aq ak))))) (aA (aW (i:=3) (bu aZ (bF (ao fu (ao fu (ao fu (ao fu ak))))) (pf aM hr (ao (pv 0) (ao aq ak))))) (aA (aW (i:=4) (cg (dX (pv 1)) (bu aZ (bF (ao aq (ao aq (ao aq (ao (aO bz aq (pf aM hr (ao (pv 0) (ao aq ak)))) ak))))) (pf aM hr (ao (pv 0) (ao aq ak)))) (aO bz aq (pf aM hr (ao (pv 0) (ao aq ak)))))) (aA (aW (i:=5) (cg (dX (pv 1)) (pf aM hr (ao (pv 0) (ao aq ak))) (pf fJ hr (ao (pv 0) ak)))) (aA (b_ (bc fW (pv 2) fu (bj _)) (aH (bw (bx (ao (pv 3) (ao (pv 4) (ao (pv 2) (ao (pb (gw rfl) B.max kZ (ao aq (ao (pv 5) ak))) (ao aq ak)))))))) bD) (aA (aW (i:=6) (aO bz aq (pf aM hr (ao (pv 0) (ao (cg (dX (pv 1)) aq aq) ak))))) (aH (bw (bx (ao (pv 3) (ao (pv 4) (ao (pv 2) (ao (pv 5) (ao (cg (bc qI (aO bz (pf aM hr (ao (pv 0) (ao aq ak))) (aO il (pt (vo) B.int FP (ao (eG fW (pv 2) fu (bj _)) ak)) aq)) aq (bj _)) (pv 6) (aO dY aq (pv 6))) ak)))))))))))))),?_⟩
 simp only[sO 4,sO 5,sO 6,afI];ext;refine⟨⋯,fun p1 H1 f1 s1 e1=>?_⟩
 refine cF.of (tp.same s1) ∅ ⋯ ⋯ fun y1 H2 l2 u2 t2 s2=>?_
 have n1:p1≠a:=tp.ne f1;obtain⟨g,hg,eg⟩:=Cv (ts:=["over","under","each"]) l2 u2;refine Ix.lst (s2.get n1 e1) eg ?_;refine⟨⋯,fun p3 H3 f3 s3 e3=>?_⟩
 refine cF.of (t2.same s3) ∅ ⋯ ⋯ fun y4 H4 l4 u4 t4 s4=>?_
 have n3:p3≠a:=t2.ne f3;obtain⟨w,hw,ew⟩:=Cv (ts:=["come","done","wait","wait"]) l4 u4
 have hw':w∈(["come","done","wait"]:List Str):=by
  simp only[bN,e_,or_false] at hw ⊢;rcases hw with z | z | z | z
  ·exact .inl z
  ·exact .inr (.inl z)
  ·exact .inr (.inr z)
  ·exact .inr (.inr z)
 refine Ix.lst (s4.get n3 e3) ew ?_;have sx4:SX a H H4:=(SX.of s1).trans (s2.trans ((SX.of s3).trans s4))
 have fin:∀(sp:Nat)(nn tt:Int)(H8:Hp)(m:Nat),(1<=sp/\sp<=4)->Tp H8 a m->m<=n+12->SX a H H8->(0<=nn/\nn<=1000000000000)->(g = "each" -> 1<=nn)->(g = "each" -> tt=0)->(g ≠ "each" -> -12<=tt/\tt<=12/\tt≠0)->∀p H',H8 p=none->aL H8 H'->H' p=some (.tup [.str w,.int sp,.str g,.int nn,.int tt])->Q (.ref p) H':=fun sp nn tt H8 m hsp t8 hm s8 hnn hge hz ht p H' fp sp' ep=>by
  have pa:p≠a:=t8.ne fp;refine q _ ⟨w,sp,g,nn,tt⟩ H' ⟨⟨hw',hsp,hnn,hge⟩,hg,hz,ht⟩ (At.tup (by rw[cP pa]; exact ep) ?_) ((t8.same sp').mono hm) (s8.trans (SX.of sp'))
  exact aj.cons (At.str _) (aj.cons (At.int _) (aj.cons (At.str _) (aj.cons (At.int _) (aj.cons (At.int _) aj.nil))))
 cases b with
 | false=>
  show qP _ _ _ _ _;ext;refine cF.of t4 ∅ ⋯ ⋯ fun y5 H5 l5 u5 t5 s5=>?_
  ext;show qP _ _ _ _ _;ext;refine Dv.of t5 ∅ fun num H6 l6 u6 t6 s6=>?_
  ext;obtain⟨sp,hsp⟩:∃sp:Nat,1+y5=(sp:Int):=⟨(1+y5).toNat,∅⟩
  rw[hsp];have sx:SX a H H6:=sx4.trans (s5.trans s6);refine cA (fun c1=>?_) (fun c1=>?_)
  ·exact⟨⋯,fin _ _ _ H6 _ ∅ t6 ∅ sx (by split <;> omega) (fun _=>by split <;> omega) (fun _=>rfl) (fun z=>absurd (rC c1) z)⟩
  ·have c1':=wA c1;show qP _ _ _ _ _;ext;refine cF.of t6 ∅ ⋯ ⋯ fun y8 H8 l8 u8 t8 s8=>?_
   ext;refine Rg.of (R:=fun v H9=>∃tt:Int,v=.int tt/\(-12<=tt/\tt<=12/\tt≠0)/\Tp H9 a (n+12)/\SX a H H9) ?_ ?_
   ·rintro v H9 ⟨tt,rfl,ht,t9,s9⟩;exact⟨⋯,fin _ _ _ H9 _ ∅ t9 ∅ s9 ⟨l6,u6⟩ (fun z=>absurd z c1') (fun z=>absurd z c1') (fun _=>ht)⟩
   ·intro N hN;ext;refine cF.of t8 ∅ ⋯ ⋯ fun y9 H9 l9 u9 t9 s9=>?_
    ext;refine⟨.inr ⋯,?_⟩
    refine cA (fun c2=>?_) (fun c2=>?_)
    ·exact hN _ _ ⟨_,rfl,∅,t9.mono ∅,sx.trans (s8.trans s9)⟩
    ·exact hN _ _ ⟨_,rfl,∅,t9.mono ∅,sx.trans (s8.trans s9)⟩
 | true=>
  show qP _ _ _ _ _;ext;refine cF.of t4 ∅ ⋯ ⋯ fun y5 H5 l5 u5 t5 s5=>?_
  ext;refine⟨⋯,fun p6 H6 f6 s6 e6=>?_⟩
  refine cF.of (t5.same s6) ∅ ⋯ ⋯ fun y7 H7 l7 u7 t7 s7=>?_
  have n6:p6≠a:=t5.ne f6;obtain⟨x,hx,ex⟩:=qi (ts:=[1,1,1,1+y5]) l7 u7;refine Ix.lst (s7.get n6 e6) ex ?_
  have hx':1<=x/\x<=4:=by
   simp only[bN,e_,or_false] at hx;rcases hx with rfl | rfl | rfl | rfl <;> omega
  show qP _ _ _ _ _;ext;refine cF.of t7 ∅ ⋯ ⋯ fun num H8 l8 u8 t8 s8=>?_
  ext;obtain⟨sp,rfl⟩:∃sp:Nat,x=(sp:Int):=⟨x.toNat,∅⟩
  have sx:SX a H H8:=sx4.trans (s5.trans ((SX.of s6).trans (s7.trans s8)));refine cA (fun c1=>?_) (fun c1=>?_)
  ·exact⟨⋯,fin _ _ _ H8 _ ∅ t8 ∅ sx (by split <;> omega) (fun _=>by split <;> omega) (fun _=>rfl) (fun z=>absurd (rC c1) z)⟩
  ·have c1':=wA c1;show qP _ _ _ _ _;ext;refine cF.of t8 ∅ ⋯ ⋯ fun y8 H9 l9 u9 t9 s9=>?_
   ext;refine Rg.of (R:=fun v H9=>∃tt:Int,v=.int tt/\(-12<=tt/\tt<=12/\tt≠0)/\Tp H9 a (n+12)/\SX a H H9) ?_ ?_
   ·rintro v Gd ⟨tt,rfl,ht,t11,UW⟩;exact⟨⋯,fin _ _ _ Gd _ ∅ t11 ∅ UW ∅ (fun z=>absurd z c1') (fun z=>absurd z c1') (fun _=>ht)⟩
   ·intro N hN;ext;refine cF.of t9 ∅ ⋯ ⋯ fun y9 Aa l10 u10 t10 wu=>?_
    ext;refine⟨.inr ⋯,?_⟩
    refine cA (fun c2=>?_) (fun c2=>?_)
    ·exact hN _ _ ⟨_,rfl,∅,t10.mono ∅,sx.trans (s9.trans wu)⟩
    ·exact hN _ _ ⟨_,rfl,∅,t10.mono ∅,sx.trans (s9.trans wu)⟩
theorem Vw(r:jz):uy (ym r)=true:=rfl
theorem yh(rs:List jz):uy (vP rs)=true:=by
 show bH (rs.map ym)=true;exact bC.mpr fun d hd=>by obtain⟨r,_,rfl⟩:=cV.mp hd; rfl
structure aaP(rs:List jz):Prop where
 lo:1<=rs.length
 hi:rs.length<=4
 g:∀r∈rs,QF r
def DR:Sp:=fun vs H Q _=>∃(a:Addr)(n:Nat)(bs:Bool),vs=[.ref a,.bl bs]/\Tp H a n/\n<=700000000/\∀p gD H',gD.length<=3->(∀rs∈gD,aaP rs)->At (hid a H') (m7 gD) (.ref p)->Tp H' a (n+300)->SX a H H'->Q (.ref p) H'
theorem xR:bf ["_law_tape_here","_law_small","_law_rules_here","_law_k"] AN (aK uL):=(by walk_at "c")
theorem J2(F:iT K "_law_rules" "_law_rules" uL f fd)(B:Bi mg)(aM:Ct P w K mg base k "_law_draw" AL gH)(Xj:Ct P w K mg base k "_law_row" AN Rv):bI P w K mg base gQ (k+1) f fd AN DR:=by
 refine F.ok xR (hbody:=(0:))
 obtain⟨a,n,bs,rfl,tp,hn,q⟩:=h;have ND:=xR.nd;refine⟨_,(aA (aW (i:=2) (bF ak)) (aA (gK PassesOwn.never rfl (dJ (by rfl) B.range (ao (pf aM hr (ao (pv 0) (ao (cg (dX (pv 1)) aq aq) ak))) ak)) (aG (i:=3)) (aH (cQ (ik (K:=K) rfl PySem.F.plainAttrs_list PySem.F.slot_list_append PySem.F.type_list_append eN (pv 2) (ao (pt (jf) B.tuple gW (ao (dR (N':=["_law_j","_law_tape_here","_law_small"]) (js:=[0,1]) rfl (dJ (by rfl) B.range (ao (aO bz aq (pf aM hr (ao (pv 0) (ao (cg (dX (pv 1)) aq aq) ak)))) ak)) sr.mk2 rfl ⋯ rfl (fun fp s' H'=>(pf Xj hr (ao (pv 1) (ao (pv 2) ak))))) ak)) ak))))) (aH (bw (pt (jf) B.tuple gW (ao (pv 2) ak)))))),?_⟩
 ext;refine⟨gU _,fun p H1 f1 s1 e1=>?_⟩;have pa:p≠a:=tp.ne f1;rw[sE];ext;refine(fun(hT:∀(m:Int) (H2:Hp),0<=m->m<4->Tp H2 a (n+1)->SX a H1 H2->FK _ _ _ _ [.int m] H2)=>cA (fun _=>cF.of (tp.same s1) ∅ ⋯ ⋯ fun m H2 l2 u2 t2 s2=>hT m H2 l2 ∅ t2 s2) (fun _=>cF.of (tp.same s1) ∅ ⋯ ⋯ fun m H2 l2 u2 t2 s2=>hT m H2 l2 ∅ t2 s2)) ?_
 intro m H2 l2 u2 t2 s2;refine FK.of (n:=m.toNat) ∅ ∅ (fun i σ H'=>∃(gD:List (List jz))(ys:List V)(o3:Option V),σ=[some (.ref a),some (.bl bs),some (.ref p),o3]/\gD.length=i/\ys.length=i/\(∀rs∈gD,aaP rs)/\H' p=some (.lst ys)/\aj (hid p (hid a H')) (gD.map vP) ys/\Tp H' a (n+1+60*i)/\SX a H H')
  ⟨[],[],_,rfl,rfl,rfl,fun d h=>by simp at h,s2.get pa e1,aj.nil,t2,(SX.of s1).trans s2⟩ ?_ ?_
 ·rintro i σ H3 hi ⟨gD,ys,o3,rfl,ld,ly,od,h3,a3,t3,s3⟩;ext;refine⟨.inl ⟨rfl,_,cG.of h3⟩,?_⟩;rw[uE];ext;refine(fun(hT:∀(r:Int) (H4:Hp),0<=r->r<4->Tp H4 a (n+1+60*i+1)->SX a H3 H4->∃Yj j_1,V.int 1=V.int Yj/\V.int r=V.int j_1/\CK _ _ _ _ [.int (Yj+j_1)] H4)=>cA (fun _=>cF.of t3 ∅ ⋯ ⋯ fun r H4 l4 u4 t4 s4=>hT r H4 l4 ∅ t4 s4) (fun _=>cF.of t3 ∅ ⋯ ⋯ fun r H4 l4 u4 t4 s4=>hT r H4 l4 ∅ t4 s4)) ?_
  intro r H4 l4 u4 t4 s4;have h4:=s4.get pa h3;ext;refine CK.of (n:=(1+r).toNat) ∅ ∅ fun acc hacc=>?_
  have ca:acc≠a:=t4.ne hacc;have cp:acc≠p:=fun z=>by subst z; rw[hacc] at h4; cases h4
  refine⟨fun j zs H'=>∃es:List jz,es.length=j/\zs.length=j/\(∀d∈es,QF d)/\aj (hid acc (hid a H')) (es.map ym) zs/\H' acc=some (.lst zs)/\Tp H' a (n+1+60*i+1+12*j)/\SX a H4 H',?_,?_,?_⟩
  ·exact⟨[],rfl,rfl,fun d h=>by simp at h,aj.nil,aB,t4.eZ ca,(SX.refl a H4).eZ hacc ca⟩
  ·rintro j zs H5 hj ⟨es,le,lz,oe,a5,c5,t5,s5⟩;show nJ _ _ _ _ [some _,some (.ref a),some (.bl bs)] H5 _;ext;refine Row.of t5 ∅ fun v d H6 rk a6 t6 s6=>?_
   have c6:=s6.get ca c5;have c6':hid a H6 acc=some (.lst zs):=by rw[cP ca]; exact c6
   refine⟨c6,(by rw[lz]; exact a_ ∅),es++[d],by rw[dg,le]; rfl,by rw[dg,lz]; rfl,fun x hx=>?_,?_,aB,?_,?_⟩
   ·rcases iJ.mp hx with z | z
    ·exact oe x z
    ·rw[iU.mp z]; exact rk
   ·rw[dD ca,nC,ig];exact(a5.mono (aL.hid s6)).append (aj.cons (At.Ay c6' _ v (Vw d) a6) aj.nil)
   ·exact(t6.eZ ca).mono ∅
   ·exact(s5.trans s6).eZ hacc ca
  ·rintro zs H6 ⟨es,le,lz,oe,a6,c6,t6,s6⟩;have h6:=s6.get pa h4;refine⟨acc,zs,rfl,c6,fun l hl=>?_⟩;have la:l≠a:=t6.ne hl;have lp:l≠p:=fun z=>by subst z; rw[hl] at h6; cases h6
   refine⟨p,ys,_,rfl,rfl,by rw[aJ (Ne.symm lp)]; exact h6,by rw[ly]; exact a_ ∅,?_⟩
   have A1:At (hid a (upd H6 l (.tup zs))) (vP es) (.ref l):=by
    rw[dD la];have fr:hid a H6 l=none:=by rw[cP la]; exact hl
    exact At.tup aB ((a6.mono jH).mono (aP fr _))
   have h7:hid a (upd H6 l (.tup zs)) p=some (.lst ys):=by rw[cP pa,aJ (Ne.symm lp)]; exact h6
   have s67:SX a H3 (upd H6 l (.tup zs)):=(s4.trans s6).trans (SX.of (aP hl _));refine⟨gD++[es],ys++[.ref l],_,rfl,by rw[dg,ld]; rfl,by rw[dg,ly]; rfl,fun x hx=>?_,aB,?_,?_,?_⟩
   ·rcases iJ.mp hx with z | z
    ·exact od x z
    ·rw[iU.mp z]; exact⟨∅,∅,oe⟩
   ·rw[dD pa,nC,ig];exact(a3.mono (aL.hid s67)).append (aj.cons (At.Ay h7 _ _ (yh es) A1) aj.nil)
   ·exact((t6.eZ la).eZ pa).mono ∅
   ·exact(s3.trans s67).eZ f1 pa
 ·rintro σ H3 ⟨gD,ys,o3,rfl,ld,ly,od,h3,a3,t3,s3⟩;ext;refine⟨p,ys,rfl,h3,fun l hl=>?_⟩;have la:l≠a:=t3.ne hl;refine q l gD _ ∅ od ?_ ((t3.eZ la).mono ∅) (s3.trans (SX.of (aP hl _)))
  rw[dD la];have fr:hid a H3 l=none:=by rw[cP la]; exact hl
  exact At.tup aB ((a3.mono jH).mono (aP fr _))
structure uz(x:gm):Prop where
 p:1<=x.p/\x.p<=1000000
 m:U12 x.m
 lo:0<=x.lo/\x.lo<=x.hi
 hi:x.hi<=12
 a:x.a<=4
 e:1<=x.e/\x.e<=6
 u:0<=x.u/\x.u<=9
 d:0<=x.d/\x.d<=9
 n:x.gD.length<=3
 r:∀rs∈x.gD,aaP rs
theorem uz.is{x:gm}(h:uz x):Uz x:=⟨h.a,by have:=h.p; omega,by have:=h.n; omega,fun rs hrs r hr=>((h.r rs hrs).g r hr).is⟩
def qQ:Sp:=fun vs H Q _=>∃(a:Addr)(n:Nat),vs=[.ref a]/\Tp H a n/\n<=100000000/\∀p x H',uz x->At (hid a H') (dh x) (.ref p)->Tp H' a (n+400)->SX a H H'->Q (.ref p) H'
theorem j8:bf ["_law_tape_here","_law_least","_law_hands_here","_law_rests","_law_late","_law_every"] AM (aK jP):=(by walk_at "c")
theorem wD(F:iT K "_law_small_post" "_law_small_post" jP f fd)(B:Bi mg)(aM:Ct P w K mg base k "_law_draw" AL gH)(vy:Ct P w K mg base k "_law_rules" AN DR):bI P w K mg base gQ (k+1) f fd AM qQ:=by
 refine F.ok j8 (hbody:=(0:))
 obtain⟨a,n,rfl,tp,hn,q⟩:=h;have ND:=j8.nd;refine⟨_,(aA (aW (i:=1) (pf aM hr (ao (pv 0) (ao aq ak)))) (aA (aW (i:=2) (bx (ao (pv 1) (ao (aO bz (aO bz (pv 1) aq) (pf aM hr (ao (pv 0) (ao aq ak)))) ak)))) (aA (aW (i:=3) (bu aZ (bF (ao (bx (ao aq (ao aq ak))) (ao (bx (ao aq (ao aq ak))) (ao (bx (ao aq (ao aq ak))) (ao (bx (ao aq (ao aq ak))) ak))))) (pf aM hr (ao (pv 0) (ao aq ak))))) (aA (pJ (i:=4) (j:=5) rfl ND rfl rfl ⋯ rfl rfl (ao (bu aZ (bF (ao aq (ao aq (ao aq (ao aq ak))))) (pf aM hr (ao (pv 0) (ao aq ak)))) (ao (bu aZ (bF (ao aq (ao aq (ao aq (ao aq ak))))) (pf aM hr (ao (pv 0) (ao aq ak)))) ak)) (by rfl)) (aH (bw (bx (ao (aO bz aq (pf aM hr (ao (pv 0) (ao aq ak)))) (ao (aO bz aq (pf aM hr (ao (pv 0) (ao aq ak)))) (ao (pv 2) (ao (pv 4) (ao (pv 5) (ao (pv 3) (ao (pf vy hr (ao (pv 0) (ao jo ak))) ak)))))))))))))),?_⟩
 ext;refine cF.of tp ∅ ⋯ ⋯ fun y1 H1 l1 u1 t1 s1=>?_
 ext;refine cF.of t1 ∅ ⋯ ⋯ fun y2 H2 l2 u2 t2 s2=>⟨_,_,rfl,rfl,⋯,fun p3 H3 f3 s3 e3=>?_⟩
 have n3:=t2.ne f3;refine⟨⋯,fun q1 G1 g1 r1 d1=>⟨⋯,fun q2 G2 g2 r2 d2=>⟨⋯,fun q3 G3 g3 r3 d3=>⟨⋯,fun q4 G4 g4 r4 d4=>⟨⋯,fun p4 H4 f4 s4 e4=>?_⟩⟩⟩⟩⟩
 have x34:aL H3 H4:=r1.trans (r2.trans (r3.trans (r4.trans s4)));have t4:=(t2.same s3).same x34;have m1:=((t2.same s3)).ne g1;have m2:=((t2.same s3).same r1).ne g2;have m3:=(((t2.same s3).same r1).same r2).ne g3;have m4:=((((t2.same s3).same r1).same r2).same r3).ne g4;have n4:=(((((t2.same s3).same r1).same r2).same r3).same r4).ne f4;refine cF.of t4 ∅ ⋯ ⋯ fun y5 H5 l5 u5 t5 s5=>?_
 have pick:∃(pr:Addr)(uu dd:Int),zV [V.ref q1,V.ref q2,V.ref q3,V.ref q4] y5=some (.ref pr)/\pr≠a/\H5 pr=some (.tup [.int uu,.int dd])/\(0<=uu/\uu<=9)/\(0<=dd/\dd<=9):=by
  have:y5=0\/y5=1\/y5=2\/y5=3:=by omega
  rcases this with rfl | rfl | rfl | rfl
  ·exact⟨q1,0,0,aV (j:=0) rfl,m1,s5.get m1 (s4 _ _ (r4 _ _ (r3 _ _ (r2 _ _ d1)))),⋯,⋯⟩
  ·exact⟨q2,1,0,aV (j:=1) rfl,m2,s5.get m2 (s4 _ _ (r4 _ _ (r3 _ _ d2))),⋯,⋯⟩
  ·exact⟨q3,0,1,aV (j:=2) rfl,m3,s5.get m3 (s4 _ _ (r4 _ _ d3)),⋯,⋯⟩
  ·exact⟨q4,2,1,aV (j:=3) rfl,m4,s5.get m4 (s4 _ _ d4),⋯,⋯⟩
 obtain⟨pr,uu,dd,ep,npr,epr,hu,hd⟩:=pick;refine Ix.lst (s5.get n4 e4) ep ?_;refine⟨⋯,fun p6 H6 f6 s6 e6=>?_⟩
 have t6:=t5.same s6;have n6:=t5.ne f6;refine cF.of t6 ∅ ⋯ ⋯ fun y7 H7 l7 u7 t7 s7=>?_
 obtain⟨lt,hlt,elt⟩:=qi (ts:=[0,1,0,2]) l7 u7
 have hlt':0<=lt/\lt<=2:=by
  simp only[bN,e_,or_false] at hlt;rcases hlt with rfl | rfl | rfl | rfl <;> omega
 refine Ix.lst (s7.get n6 e6) elt ?_;clear elt hlt l7 u7;refine⟨⋯,fun p8 H8 f8 s8 e8=>?_⟩
 have t8:=t7.same s8;have n8:=t7.ne f8;refine cF.of t8 ∅ ⋯ ⋯ fun y9 H9 l9 u9 t9 s9=>?_
 obtain⟨ev,hev,eev⟩:=qi (ts:=[1,2,1,3]) l9 u9
 have akt:1<=ev/\ev<=3:=by
  simp only[bN,e_,or_false] at hev;rcases hev with rfl | rfl | rfl | rfl <;> omega
 refine Ix.lst (s9.get n8 e8) eev ⟨_,_,rfl,?_⟩;clear eev hev l9 u9;refine cF.of t9 ∅ ⋯ ⋯ fun y10 Aa l10 u10 t10 wu=>⟨_,_,rfl,rfl,?_⟩
 refine cF.of t10 ∅ ⋯ ⋯ fun y11 Gd l11 u11 t11 UW=>⟨_,_,rfl,rfl,?_⟩
 refine⟨a,_,true,rfl,t11,∅,fun p14 gD H14 aaq aap a14 t14 Vu=>⟨⋯,fun p15 YG f15 JG QM=>?_⟩⟩
 have n15:=t14.ne f15;obtain⟨la,hla⟩:∃la:Nat,lt=(la:Int):=⟨lt.toNat,∅⟩
 rw[hla] at QM;have x5:SX a H5 YG:=(SX.of s6).trans (s7.trans ((SX.of s8).trans (s9.trans (wu.trans (UW.trans (Vu.trans (SX.of JG)))))));have x3:SX a H3 YG:=(SX.of x34).trans (s5.trans x5);refine q p15 ⟨1+y10,3+y11,y1,y1+1+y2,la,ev,uu,dd,gD⟩ YG ⟨by show 1<=1+y10/\1+y10<=1000000; omega,by show 0<=3+y11/\3+y11<=1000000000000; omega,by show 0<=y1/\y1<=y1+1+y2; omega,by show y1+1+y2<=12; omega,by show la<=4; omega,by show 1<=ev/\ev<=6; omega,hu,hd,aaq,aap⟩ ?_ ((t14.same JG).mono ∅) ?_
 ·exact At.tup (by rw[cP n15]; exact QM) (aj.cons (At.int _) (aj.cons (At.int _) (aj.cons (At.tup (by rw[cP n3]; exact x3.get n3 e3) (bU [y1,y1+1+y2])) (aj.cons (At.int _) (aj.cons (At.int _) (aj.cons (At.tup (by rw[cP npr]; exact x5.get npr epr) (bU [uu,dd])) (aj.cons (a14.mono (SX.of JG)) aj.nil)))))))
 ·exact s1.trans (s2.trans ((SX.of s3).trans x3))
theorem Ca:bf ["_law_tape_here","_law_pace","_law_most","_law_hands_here","_law_rests","_law_late","_law_every"] AM (aK ye):=(by walk_at "c")
theorem Pb(F:iT K "_law_post" "_law_post" ye f fd)(B:Bi mg)(aM:Ct P w K mg base k "_law_draw" AL gH)(fJ:Ct P w K mg base k "_law_units" AM qe)(vy:Ct P w K mg base k "_law_rules" AN DR):bI P w K mg base gQ (k+1) f fd AM qQ:=by
 refine F.ok Ca (hbody:=(0:))
 obtain⟨a,n,rfl,tp,hn,q⟩:=h;have ND:=Ca.nd;refine⟨_,(aA (aW (i:=1) (bu aZ (bF (ao aq (ao (aO bz aq (pf aM hr (ao (pv 0) (ao aq ak)))) (ao (aO bz aq (pf aM hr (ao (pv 0) (ao (aO rG aq aq) ak)))) ak)))) (pf aM hr (ao (pv 0) (ao aq ak))))) (aA (aW (i:=2) (pf aM hr (ao (pv 0) (ao aq ak)))) (aA (aW (i:=3) (bx (ao (pf aM hr (ao (pv 0) (ao (aO bz (pv 2) aq) ak))) (ao (pv 2) ak)))) (aA (aW (i:=4) (bx (ao (pf aM hr (ao (pv 0) (ao aq ak))) (ao (pf aM hr (ao (pv 0) (ao aq ak))) ak)))) (aA (pJ (i:=5) (j:=6) rfl ND rfl rfl ⋯ rfl rfl (ao (pf aM hr (ao (pv 0) (ao aq ak))) (ao (aO bz aq (pf aM hr (ao (pv 0) (ao aq ak)))) ak)) (by rfl)) (aH (bw (bx (ao (pv 1) (ao (pf fJ hr (ao (pv 0) ak)) (ao (pv 3) (ao (pv 5) (ao (pv 6) (ao (pv 4) (ao (pf vy hr (ao (pv 0) (ao jo ak))) ak))))))))))))))),?_⟩
 have e6:(10:Int) ^ Int.toNat 6=1000000:=by decide
 ext;refine cF.of tp ∅ ⋯ ⋯ fun y1 H1 l1 u1 t1 s1=>?_
 ext;refine⟨⟨⋯,⋯,⋯⟩,cF.of t1 ∅ ⋯ ⋯ fun y2 H2 l2 u2 t2 s2=>⟨_,_,rfl,rfl,⋯,fun p3 H3 f3 s3 e3=>?_⟩⟩
 rw[e6] at u2;have n3:=t2.ne f3;refine cF.of (t2.same s3) ∅ ⋯ ⋯ fun y4 H4 l4 u4 t4 s4=>?_
 obtain⟨pc,hpc,epc⟩:=qi (ts:=[1,1+y1,1+y2]) l4 u4
 have afO:1<=pc/\pc<=1000000:=by
  simp only[bN,e_,or_false] at hpc;rcases hpc with rfl | rfl | rfl <;> omega
 refine Ix.lst (s4.get n3 e3) epc ?_;clear hpc epc l4 u4;refine cF.of t4 ∅ ⋯ ⋯ fun y5 H5 l5 u5 t5 s5=>⟨_,_,rfl,rfl,?_⟩
 refine cF.of t5 ∅ ∅ ∅ fun y6 H6 l6 u6 t6 s6=>⟨⋯,fun p7 H7 f7 s7 e7=>?_⟩
 have n7:=t6.ne f7;refine cF.of (t6.same s7) ∅ ⋯ ⋯ fun y8 H8 l8 u8 t8 s8=>?_
 refine cF.of t8 ∅ ⋯ ⋯ fun y9 H9 l9 u9 t9 s9=>⟨⋯,fun p10 Aa f10 wu e10=>?_⟩
 have n10:=t9.ne f10;refine cF.of (t9.same wu) ∅ ⋯ ⋯ fun y11 Gd l11 u11 t11 UW=>?_
 refine cF.of t11 ∅ ⋯ ⋯ fun y12 H12 l12 u12 t12 s12=>⟨_,_,rfl,rfl,_,_,rfl,?_⟩
 refine Dv.of t12 ∅ fun y13 H13 l13 u13 t13 pF=>?_
 refine⟨a,_,false,rfl,t13,∅,fun p14 gD H14 aaq aap a14 t14 Vu=>⟨⋯,fun p15 YG f15 JG QM=>?_⟩⟩
 have n15:=t14.ne f15;obtain⟨la,hla⟩:∃la:Nat,y11=(la:Int):=⟨y11.toNat,∅⟩
 rw[hla] at QM;have x10:SX a Aa YG:=UW.trans (s12.trans (pF.trans (Vu.trans (SX.of JG))));have x7:SX a H7 YG:=s8.trans (s9.trans ((SX.of wu).trans x10));refine q p15 ⟨pc,y13,y6,y5,la,1+y12,y8,y9,gD⟩ YG ⟨afO,⟨l13,u13⟩,by show 0<=y6/\y6<=y5; omega,by show y5<=12; omega,by show la<=4; omega,by show 1<=1+y12/\1+y12<=6; omega,by show 0<=y8/\y8<=9; omega,by show 0<=y9/\y9<=9; omega,aaq,aap⟩ ?_ ((t14.same JG).mono ∅) ?_
 ·exact At.tup (by rw[cP n15]; exact QM) (aj.cons (At.int _) (aj.cons (At.int _) (aj.cons (At.tup (by rw[cP n7]; exact x7.get n7 e7) (bU [y6,y5])) (aj.cons (At.int _) (aj.cons (At.int _) (aj.cons (At.tup (by rw[cP n10]; exact x10.get n10 e10) (bU [y8,y9])) (aj.cons (a14.mono (SX.of JG)) aj.nil)))))))
 ·exact s1.trans (s2.trans ((SX.of s3).trans (s4.trans (s5.trans (s6.trans ((SX.of s7).trans x7))))))
def ltr(c:Nat):Bool:=!(Builtin.Str.occurrences (Str.ofString "abcdefghijklmnopqrstuvwxyz") (tx [c]) 0 (Str.ofString "abcdefghijklmnopqrstuvwxyz").length 1).isEmpty
def nameB(cs:List Nat):Bool:=decide (1<=cs.length)&&decide (cs.length<=8)&&cs.all ltr
def LtG(c:Nat):Prop:=97<=c/\c<=122
structure U_(cs:List Nat):Prop where
 n:1<=cs.length/\cs.length<=8
 g:∀c∈cs,LtG c
theorem aac{c:Nat}(h:LtG c):ltr c=true:=by
 have:∀d:Fin 26,ltr (97+d.val)=true:=by decide +kernel
 have h2:=this ⟨c-97,by have:=h.1; have:=h.2; omega⟩
 have e:97+(c-97)=c:=by have:=h.1; omega
 simpa[e] using h2
theorem U_.is{cs:List Nat}(h:U_ cs):nameB cs=true:=by
 unfold nameB;rw[jF h.n.1,jF h.n.2,qw.mpr fun c hc=>aac (h.g c hc)];rfl
def JB:Sp:=fun vs H Q _=>∃(cs:List Nat),vs=[.str (tx cs)]/\(∀c∈cs,c<128)/\cs.length<=1000/\∀H',aL H H'->Q (.bl (nameB cs)) H'
theorem xY:bf ["thing"] ["thing"] (aK uQ):=(by walk_at "c")
theorem J7(F:iT K "is_name" "is_name" uQ f fd)(B:Bi mg)(O:Co K mg):bI P w K mg base gQ (k+1) f fd ["thing"] JB:=by
 refine F.ok xY (hbody:=(0:))
 obtain⟨cs,rfl,ha,hz,q⟩:=h;have ND:=xY.nd;refine⟨_,(aA (b_ (PW.pt (yC (jc (dX (pb wZ B.isinstance cu (ao (pv 0) (ao (pty (by rfl) B.str FN) ak))))) (rD (jc (Hu Hy Hy aq (pb (ug) B.len fQ (ao (pv 0) ak)) (El O.Ga)))))) (aH (bw jo)) bD) (aH (bw (pb (mQ rfl) B.all zU (ao (dR (N':=["sign"]) (js:=[]) rfl (ZK (pv 0)) sr.Wy rfl ⋯ rfl (fun fp s' H'=>(eG O7 (pv 0) (Ek O.LETTERS) (by with_unfolding_all rfl)))) ak))))),?_⟩
 ext;refine⟨.str (tx cs),_,rfl,At.str _,?_⟩;ext;refine⟨tx cs,rfl,by rw[gG,sizeLine_eq]; omega,?_⟩
 rw[gG];refine acQ (fun h=>?_) (fun h=>?_)
 ·refine acQ (fun h2=>?_) (fun h2=>?_)
  ·have:nameB cs=false:=by
    have h3:¬cs.length<=8:=by simp at h2; omega
    unfold nameB; rw[mJ h3]; simp
   rw[<- this]; exact q H (aL.refl H)
  ·refine aaH (l:=cs) (f:=ltr) (fun R hR=>by ext; exact hR) ha (by rw[sizeLine_eq]; omega) (fun c H1 s1 R hR=>?_) fun acc H1 s1 e1=>?_
   ·ext;exact⟨_,_,rfl,rfl,hR H1 (aL.refl H1)⟩
   ·refine⟨acc,_,rfl,e1,?_⟩;have h1:1<=cs.length:=by simp at h; omega
    have h3:cs.length<=8:=by simp at h2; omega
    have:nameB cs=(cs.map ltr).all id:=by unfold nameB; rw[jF h1,jF h3,List.all_map]; rfl
    rw[<- this]; exact q H1 s1
 ·have:nameB cs=false:=by
   have h3:¬1<=cs.length:=fun z=>h (by simp; omega)
   unfold nameB; rw[mJ h3]; simp
  rw[<- this]; exact q H (aL.refl H)
theorem Name.of{cs:List Nat}{H:Hp}{Q:VK}{E:XK}(h:U_ cs)(q:∀H',aL H H'->Q (.bl true) H'):JB ([.str (tx cs)]++[]) H Q E:=
 ⟨cs,rfl,fun c hc=>by have:=(h.g c hc).2; omega,by have:=h.n.2; omega,fun H' s'=>by rw[h.is]; exact q H' s'⟩
theorem Td:∀cs:List Nat,jn [] (cs.map fun c=>[c])=cs
 | []=>rfl
 | [c]=>rfl
 | c::d::r=>by
  show[c]++[]++jn [] ((d::r).map fun c=>[c])=_;rw[Td (d::r)]; rfl
theorem letter{i:Int}(h0:0<=i)(h1:i<26):zV (Str.ofString "abcdefghijklmnopqrstuvwxyz").cps.toList i=some (97+i.toNat):=by
 obtain⟨j,rfl⟩:∃j:Nat,i=(j:Int):=⟨i.toNat,∅⟩
 have hl:(Str.ofString "abcdefghijklmnopqrstuvwxyz").cps.toList=(List.range 26).map (97 + ·):=by decide +kernel
 rw[hl];refine aV ?_;rw[cM,List.getElem?_range ∅]
 rfl
theorem Ry(l:List Nat){j:Int}(h0:0<=j)(h1:j<=l.length):Txt.slice (tx l) none (some j)=tx (l.take j.toNat):=by
 have:=beq_iff_eq.mp (PyProof.Rows.slice_closes_toL (x:=tx l) h0 (by rw[gG]; exact h1))
 rw[this,xr];simp[tx]
theorem Rz(l:List Nat){j:Int}(h0:0<=j)(h1:j<=l.length):Txt.slice (tx l) (some j) none=tx (l.drop j.toNat):=by
 have:=beq_iff_eq.mp (PyProof.Rows.slice_closes_fromL (x:=tx l) (b:=(tx l).length) h0 (by rw[gG]; exact h1) rfl)
 rw[this,xr,gG];unfold tx
 congr 2
 exact RQ (by rw[wz]; omega)
theorem Ow{m:Nat}{g:Nat->Option Nat}(h:∀i j,i<j->j<m->g i≠g j):((List.range m).map g).Nodup:=by
 unfold List.Nodup;rw[List.pairwise_map];refine List.Pairwise.imp_of_mem ?_ List.pairwise_lt_range;intro a b ha hb hab;exact h a b hab (List.mem_range.mp hb)
def U8(y:Int)(i:Nat):Nat:=97+((y+7*(i:Int)) % 26).toNat
theorem ado(y:Int)(i:Nat):LtG (U8 y i):=by
 unfold U8 LtG;have:=yr (y+7*(i:Int)) (show(26:Int)≠0 by decide)
 have:=Ed (y+7*(i:Int)) (show(0:Int)<26 by decide)
 omega
theorem adn{y:Int}{i j:Nat}(h:i<j)(hj:j<26):U8 y i≠U8 y j:=by
 unfold U8;have:=yr (y+7*(i:Int)) (show(26:Int)≠0 by decide)
 have:=yr (y+7*(j:Int)) (show(26:Int)≠0 by decide)
 omega
theorem word{a:Addr}{n:Nat}{LT:Str}{r:St}{H:Hp}{Q:VK}(hLl:LT.length<=sizeLine)(Tu:∀i:Int,0<=i->i<26->zV LT.cps.toList i=some (97+i.toNat))(hc:bR [2,0] (some (.ref a)::r)=[some (.str LT),some (.ref a)])(tp:Tp H a n)(hn:n<=200000000)
  (q:∀acc (cs:List Nat) H',cs.length<=7->(∀c∈cs,LtG c)->H' acc=some (.lst (cs.map fun c=>V.str (tx [c])))->Tp H' a (n+10)->SX a H H'->Q (.ref acc) H') :
  iw [2,0] (zj (sH (nJ gH [] E0 (sH (qO 0) (sH (tC (V.int 8)) Gq))) Gq)) (Xx aco (qO 1) (nJ gH [] E0 (sH (qO 2) (sH (tC (V.int 26)) Gq)))) (some (.ref a)::r) H Q:=by
 rw[uE];ext;refine cF.of tp ∅ ⋯ ⋯ fun y6 H6 l6 u6 t6 s6=>?_
 refine CK.of (n:=y6.toNat) ∅ ∅ fun acc hacc=>?_
 have ca:acc≠a:=t6.ne hacc;refine⟨fun j ws H'=>∃cs:List Nat,cs.length=j/\ws=cs.map (fun c=>V.str (tx [c]))/\(∀c∈cs,LtG c)/\H' acc=some (.lst ws)/\Tp H' a (n+1+j)/\SX a H6 H',?_,?_,?_⟩
 ·exact⟨[],rfl,rfl,fun d h=>by simp at h,aB,t6.eZ ca,(SX.refl a H6).eZ hacc ca⟩
 ·rintro j ws H7 hj ⟨cs,lc,rfl,hcs,c7,t7,s7⟩;rw[hc];ext;refine cF.of t7 ∅ ⋯ ⋯ fun y8 H8 l8 u8 t8 s8=>?_
  refine⟨LT,_,_,rfl,rfl,hLl,Tu y8 l8 u8,s8.get ca c7,by rw[bW,lc]; exact a_ ∅,cs++[97+y8.toNat],by rw[dg,lc]; rfl,by rw[ig]; rfl,fun x hx=>?_,aB,(t8.eZ ca).mono ∅,(s7.trans s8).eZ hacc ca⟩
  rcases iJ.mp hx with h | h
  ·exact hcs x h
  ·rw[iU.mp h]; unfold LtG; omega
 ·rintro ws H7 ⟨cs,lc,rfl,hcs,c7,t7,s7⟩;exact q acc cs H7 ∅ hcs c7 (t7.mono ∅) (s6.trans s7)
theorem Zc{a p:Addr}{H H':Hp}(s:SX a H H')(n:p≠a)(h:H' p=none):H p=none:=by
 cases e:H p with
 | none=>rfl
 | some o=>rw[s.get n e] at h; cases h
theorem M9{cs:List Nat}(h:cs.length<=7):((cs.map fun c=>tx [c]).map fun x=>x.length).sum+(cs.map fun c=>tx [c]).length*(Str.ofString "").length<=sizeLine:=by
 have:=StrLaws.sumLen_le (B:=1) (cs.map fun c=>tx [c]) (fun y hy=>by
  obtain⟨x,hx,rfl⟩:=cV.mp hy
  exact bJ _)
 rw[bW] at this ⊢;rw[show(Str.ofString "").length=0 from rfl,sizeLine_eq];omega
def Zi:Sp:=fun vs H Q _=>∃(a:Addr)(n m:Nat),vs=[.ref a,.int m]/\m<=20/\Tp H a n/\n<=100000000/\∀p (zs:List (List Nat)) H',H p=none->p≠a->zs.length=m->(∀z∈zs,U_ z)->zs.Nodup->H' p=some (.lst (zs.map fun z=>V.str (tx z)))->Tp H' a (n+300)->SX a H H'->Q (.ref p) H'
theorem xT:bf ["_law_tape_here","_law_many","_law_letters","_law_first","_law_stem","_law_spot","_law_like","_law_found","_law_k","_law_letter"] AL (aK uM):=(by walk_at "c")
theorem J3(F:iT K "_law_names" "_law_names" uM f fd)(B:Bi mg)(aM:Ct P w K mg base k "_law_draw" AL gH):bI P w K mg base gQ (k+1) f fd AL Zi:=by
 refine F.ok xT (hbody:=(0:))
 obtain⟨a,n,m,rfl,hm,tp,hn,q⟩:=h;have ND:=xT.nd;refine⟨_,(aA (cI (bx (ao fu (ao (pf aM hr (ao (pv 0) (ao aq ak))) ak))) (bL (K:=K) (n:=2) rfl rfl (aF (aG (i:=2)) (aF (aG (i:=3)) bG)))) (aA (aW (i:=4) (ik (K:=K) rfl PySem.F.plainAttrs_str PySem.F.slot_str_join PySem.F.type_str_join MK fu (ao (dR (N':=["_law_k","_law_letters","_law_tape_here"]) (js:=[2,0]) rfl (dJ (by rfl) B.range (ao (pf aM hr (ao (pv 0) (ao aq ak))) ak)) sr.mk2 rfl ⋯ rfl (fun fp s' H'=>(bu Kf (pv 1) (pf aM hr (ao (pv 2) (ao aq ak)))))) ak))) (aA (Mw (i:=5) (j:=6) (l:=7) rfl ND rfl rfl rfl rfl rfl rfl (ao (pf aM hr (ao (pv 0) (ao (aO bz (pb (ug) B.len fQ (ao (pv 4) ak)) aq) ak))) (ao (eG fW (pf aM hr (ao (pv 0) (ao aq ak))) aq (bj _)) (ao (bF ak) ak))) (by rfl)) (aA (gK PassesOwn.never rfl (dJ (by rfl) B.range (ao (pv 1) ak)) (aG (i:=8)) (aA (aW (i:=9) (bu Kf (pv 2) (aO nj (aO bz (pv 3) (aO il aq (pv 8))) aq))) (aH (b_ (dX (pv 6)) (aH (cQ (ik (K:=K) rfl PySem.F.plainAttrs_list PySem.F.slot_list_append PySem.F.type_list_append eN (pv 7) (ao (aO rH (aO rH (cR RB (pv 4) dN (dq (pv 5))) (pv 9)) (cR RB (pv 4) (dq (pv 5)) dN)) ak)))) (aH (cQ (ik (K:=K) rfl PySem.F.plainAttrs_list PySem.F.slot_list_append PySem.F.type_list_append eN (pv 7) (ao (aO rH (ik (K:=K) rfl PySem.F.plainAttrs_str PySem.F.slot_str_join PySem.F.type_str_join MK fu (ao (dR (N':=["_law_turn","_law_letters","_law_tape_here"]) (js:=[2,0]) rfl (dJ (by rfl) B.range (ao (pf aM hr (ao (pv 0) (ao aq ak))) ak)) sr.mk2 rfl ⋯ rfl (fun fp s' H'=>(bu Kf (pv 1) (pf aM hr (ao (pv 2) (ao aq ak)))))) ak)) (pv 9)) ak)))))))) (aH (bw (pv 7))))))),?_⟩
 ext;refine cF.of tp ∅ ⋯ ⋯ fun y1 H1 l1 u1 t1 s1=>⟨⋯,fun p2 H2 f2 s2 e2=>?_⟩
 refine⟨p2,_,rfl,eX.of e2,rfl,?_⟩;generalize hL:Str.ofString "abcdefghijklmnopqrstuvwxyz" = LT;have hLl:LT.length<=sizeLine:=by rw[<- hL]; decide
 have Tu:∀i:Int,0<=i->i<26->zV LT.cps.toList i=some (97+i.toNat):=fun i h0 h1=>by rw[<- hL]; exact letter h0 h1
 ext;refine⟨rfl,?_⟩;refine word hLl Tu rfl (t1.same s2) ∅ fun acc st H3 ls gs e3 t3 s3=>?_
 have ej:∀cs:List Nat,Str.join (Str.ofString "") (cs.map fun c=>tx [c])=tx cs:=fun cs=>by
  rw[show Str.ofString "" = tx [] from rfl,show(cs.map fun c=>tx [c])=(cs.map fun c=>[c]).map tx by rw[vR]; rfl,M8,Td]
 refine⟨_,acc,st.map fun c=>tx [c],rfl,rfl,by rw[e3,vR]; rfl,?_,?_⟩
 ·exact M9 ls
 rw[ej];refine⟨tx st,rfl,by rw[gG,sizeLine_eq]; omega,?_⟩
 rw[gG];refine cF.of t3 ∅ ∅ ∅ fun y4 H4 l4 u4 t4 s4=>?_
 refine cF.of t4 ∅ ⋯ ⋯ fun y5 H5 l5 u5 t5 s5=>?_
 ext;refine⟨⋯,fun p H6 f6 s6 e6=>?_⟩
 have pa:=t5.ne f6;have x5:SX a H H5:=s1.trans ((SX.of s2).trans (s3.trans (s4.trans s5)));have fHp:H p=none:=Zc x5 pa f6;generalize decide (y5=0)=lk
 obtain⟨g,hg1,hg2⟩:∃g:List Nat->Option Nat,(∀c,lk=true->g (st.take y4.toNat++[c]++st.drop y4.toNat)=some c)/\∀b c,lk=false->g (b++[c])=some c:=by
  cases lk with
  | true=>exact⟨fun z=>z[y4.toNat]?,fun c _=>by
    show(st.take y4.toNat++[c]++st.drop y4.toNat)[y4.toNat]?=some c
    rw[GX,Ef (by rw[k_]; omega),k_,Nat.min_eq_left ∅,Cj]; rfl,(fun _ _ h=>by cases h)⟩
  | false=>exact⟨fun z=>z.getLast?,(fun _ h=>by cases h),fun b c _=>by simp⟩
 refine⟨_,_,_,rfl,?_⟩;rw[sE];ext;refine FK.of (n:=m) rfl ∅ (fun i σ H'=>∃(zs:List (List Nat))(o8 o9:Option V),σ=[some (.ref a),some (.int m),some (.str LT),some (.int y1),some (.str (tx st)),some (.int y4),some (.bl lk),some (.ref p),o8,o9]/\zs.length=i/\(∀z∈zs,U_ z)/\zs.map g=(List.range i).map (fun j=>some (U8 y1 j))/\H' p=some (.lst (zs.map fun z=>V.str (tx z)))/\Tp H' a (n+20+10*i)/\SX a H H')
  ⟨[],none,none,rfl,rfl,fun z hz=>by simp at hz,rfl,e6,(t5.same s6).mono ∅,x5.trans (SX.of s6)⟩ ?_ ?_
 ·rintro i σ H7 hi ⟨zs,o8,o9,rfl,lz,hzs,hgz,e7,t7,s7⟩;ext;refine⟨.inl ⟨∅,∅⟩,⋯,?_⟩
  have m0:=yr (y1+7*(0+(i:Int))) (show(26:Int)≠0 by decide)
  have m1:=Ed (y1+7*(0+(i:Int))) (show(0:Int)<26 by decide)
  refine⟨LT,_,_,rfl,rfl,hLl,Tu _ m0 m1,?_⟩;have ec:97+((y1+7*(0+(i:Int))) % 26).toNat=U8 y1 i:=by unfold U8; rw[yw]
  rw[ec,Y0];have acY:=ado y1 i
  have hcn:∀b:List Nat,g b=some (U8 y1 i)->(zs++[b]).map g=(List.range (i+1)).map fun j=>some (U8 y1 j):=fun b hb=>by
   rw[ig,hgz,Ho,ig];simp[hb]
  have hmem:∀b:List Nat,U_ b->∀z∈zs++[b],U_ z:=fun b hb z hz=>by
   rcases iJ.mp hz with h | h
   ·exact hzs z h
   ·rw[iU.mp h]; exact hb
  dsimp only;cases hlk:lk with
  | true=>
   rw[aX rfl];refine⟨.inl ⟨rfl,_,cG.of e7⟩,tx st,rfl,by rw[gG,sizeLine_eq]; omega,?_⟩
   rw[Ry st l4 ∅]
   refine⟨_,_,rfl,rfl,by rw[gG,gG,sizeLine_eq,k_]; simp only[fH,rm]; omega,tx st,rfl,by rw[gG,sizeLine_eq]; omega,?_⟩
   rw[Rz st l4 ∅,xu]
   refine⟨_,_,rfl,rfl,?_,?_⟩
   ·rw[gG,gG,sizeLine_eq]; simp only[dg,k_,wz,fH,rm]; omega
   rw[xu];refine⟨p,_,_,rfl,rfl,e7,by rw[bW,lz]; exact a_ ∅,zs++[_],_,_,rfl,by rw[dg,lz]; rfl,hmem _ ⟨?_,?_⟩,hcn _ (hg1 _ hlk),by rw[aB,ig]; rfl,(t7.eZ pa).mono ∅,s7.eZ fHp pa⟩
   ·simp only[dg,k_,wz,fH,rm]; omega
   ·intro c hc;rcases iJ.mp hc with h | h
    ·rcases iJ.mp h with h | h
     ·exact gs c (wB h)
     ·rw[iU.mp h]; exact acY
    ·exact gs c (Hb h)
  | false=>
   rw[aQ ⋯]
   refine⟨.inl ⟨rfl,_,cG.of e7⟩,rfl,?_⟩;refine word hLl Tu rfl t7 ∅ fun Ux cs H8 lc gc e8 t8 s8=>?_
   refine⟨_,Ux,cs.map fun c=>tx [c],rfl,rfl,by rw[e8,vR]; rfl,M9 lc,?_⟩
   rw[ej];refine⟨_,_,rfl,rfl,by rw[gG,gG,sizeLine_eq]; simp only[fH,rm]; omega,?_⟩
   rw[xu];refine⟨p,_,_,rfl,rfl,s8.get pa e7,by rw[bW,lz]; exact a_ ∅,zs++[_],_,_,rfl,by rw[dg,lz]; rfl,hmem _ ⟨?_,?_⟩,hcn _ (hg2 _ _ hlk),by rw[aB,ig]; rfl,(t8.eZ pa).mono ∅,(s7.trans s8).eZ fHp pa⟩
   ·simp only[dg,fH,rm]; omega
   ·intro c hc;rcases iJ.mp hc with h | h
    ·exact gc c h
    ·rw[iU.mp h]; exact acY
 ·rintro σ H7 ⟨zs,o8,o9,rfl,lz,hzs,hgz,e7,t7,s7⟩;ext;refine q p zs H7 fHp pa lz hzs ?_ e7 (t7.mono ∅) s7
  have h1:(zs.map g).Nodup:=by
   rw[hgz];exact Ow fun i j hij hj z=>adn hij ∅ (Option.some.inj z)
  unfold List.Nodup at h1 ⊢;rw[List.pairwise_map] at h1;exact h1.imp fun h e=>h (by rw[e])
theorem Nm.of{a:Addr}{n m:Nat}{j:Int}{H:Hp}{Q:VK}{E:XK}(ej:j=m)(hm:m<=20)(tp:Tp H a n)(hn:n<=100000000)(q:∀p (zs:List (List Nat)) H',H p=none->p≠a->zs.length=m->(∀z∈zs,U_ z)->zs.Nodup->H' p=some (.lst (zs.map fun z=>V.str (tx z)))->Tp H' a (n+300)->SX a H H'->Q (.ref p) H'):Zi ([.ref a,.int j]++[]) H Q E:=by
 subst ej;exact⟨a,n,m,rfl,hm,tp,hn,q⟩
theorem g8(x:gm):uy (dh x)=true:=by
 have h:uy (m7 x.gD)=true:=by
  show bH (x.gD.map vP)=true;exact bC.mpr fun d hd=>by obtain⟨rs,_,rfl⟩:=cV.mp hd; exact yh rs
 unfold dh R5;simp[uy,bH,h]
theorem g_(xs:List gm):bH (xs.map dh)=true:=bC.mpr fun d hd=>by obtain⟨x,_,rfl⟩:=cV.mp hd; exact g8 x
theorem gq(xs:List jk):bH (xs.map n_)=true:=bC.mpr fun d hd=>by obtain⟨x,_,rfl⟩:=cV.mp hd; exact jD x
theorem sy(l:List Int):uy (h_ l)=true:=by show bH (l.map PyData.int)=true; exact gk l
theorem lr(xs:List (List Int)):bH (xs.map h_)=true:=bC.mpr fun d hd=>by obtain⟨x,_,rfl⟩:=cV.mp hd; exact sy x
structure Rw where
 n:Str
 c:Int
 d:Int
 a:Int
 h:Int
def Ov(r:Rw):PyData:=.tuple [.str r.n,.int r.c,.int r.d,.int r.a,.int r.h]
theorem rw_noL(r:Rw):uy (Ov r)=true:=rfl
theorem qg(xs:List Rw):bH (xs.map Ov)=true:=bC.mpr fun d hd=>by obtain⟨x,_,rfl⟩:=cV.mp hd; exact rw_noL x
structure Yd where
 tot:Int
 ns:List Str
 ps:List gm
 os:List (Option Str)
 ss:List jk
 ts:List (List Int)
 pa:List (List Rw)
structure Ya where
 p:Addr
 lo:Addr
 dp:Addr
 dn:Addr
 ds:Addr
 dt:Addr
 lp:Addr
 zZ:List Addr
def Ya.own(a:Ya):List Addr:=[a.p,a.lo,a.dp,a.dn,a.ds,a.dt,a.lp]++a.zZ
def Fi(t:Int)(lo dp dn ds dt lp:Addr):List (Str×V):=[("total",.int t),("order",.ref lo),("posts",.ref dp),("onwards",.ref dn),("stands",.ref ds),("tallies",.ref dt),("past",.ref lp)]
section
variable(t:Int)(lo dp dn ds dt lp:Addr)
theorem Ih:(Fi t lo dp dn ds dt lp).lookup ("total" : Str)=some (.int t):=by kernel_rfl
theorem pW:(Fi t lo dp dn ds dt lp).lookup ("order" : Str)=some (.ref lo):=by kernel_rfl
theorem t_:(Fi t lo dp dn ds dt lp).lookup ("posts" : Str)=some (.ref dp):=by kernel_rfl
theorem zx:(Fi t lo dp dn ds dt lp).lookup ("onwards" : Str)=some (.ref dn):=by kernel_rfl
theorem ql:(Fi t lo dp dn ds dt lp).lookup ("stands" : Str)=some (.ref ds):=by kernel_rfl
theorem rO:(Fi t lo dp dn ds dt lp).lookup ("tallies" : Str)=some (.ref dt):=by kernel_rfl
theorem Nx:(Fi t lo dp dn ds dt lp).lookup ("past" : Str)=some (.ref lp):=by kernel_rfl
end
def lD:Option Str->V
 | none=>.non
 | some s=>.str s
def Jf:Option Str->PyData
 | none=>.none
 | some s=>.str s
theorem Sw(o:Option Str):uy (Jf o)=true:=by cases o <;> rfl
theorem Wn(os:List (Option Str)):bH (os.map Jf)=true:=bC.mpr fun d hd=>by obtain⟨x,_,rfl⟩:=cV.mp hd; exact Sw x
theorem Sx{H:Hp}(o:Option Str):At H (Jf o) (lD o):=by cases o with
 | none=>show At _ .none .non; unfold At; rfl
 | some z=>exact At.str _
theorem Yg{H:Hp}{o:Option Str}{v:V}(h:At H (Jf o) v):v=lD o:=by
 cases o with
 | none=>unfold Jf At at h; exact h
 | some z=>unfold Jf At at h; exact h
theorem Sv{H:Hp}:∀{os:List (Option Str)}{vs:List V},aj H (os.map Jf) vs->vs=os.map lD
 | [],_,h=>aj.iu h
 | o::os,vs,h=>by
  obtain⟨x,r,rfl,h1,h2⟩:=aj.aR h;rw[Yg h1,Sv h2]; rfl
def fV(H:Hp):List Addr->List (List Rw)->Prop
 | [],[]=>True
 | l::ls,r::rs=>(∃xs,H l=some (.lst xs)/\aj H (r.map Ov) xs)/\fV H ls rs
 | _,_=>False
theorem fV.length{H:Hp}:∀{ls:List Addr}{rs:List (List Rw)},fV H ls rs->ls.length=rs.length
 | [],[],_=>rfl
 | l::ls,r::rs,h=>by rw[fH,fH,fV.length h.2]
 | [],_::_,h=>h.elim
 | _::_,[],h=>h.elim
theorem fV.keep{H H':Hp}(m:dH H H'):∀{ls:List Addr}{rs:List (List Rw)},fV H ls rs->(∀b∈ls,∀o,H b=some o->H' b=some o)->fV H' ls rs
 | [],[],_,_=>trivial
 | l::ls,r::rs,h,k=>by
  obtain⟨⟨xs,e,a⟩,h2⟩:=h;exact⟨⟨xs,k l (iK ..) _ e,aj.kp m _ _ (qg r) a⟩,fV.keep m h2 fun b hb=>k b (jb _ hb)⟩
 | [],_::_,h,_=>h.elim
 | _::_,[],h,_=>h.elim
theorem fV.snoc{H:Hp}:∀{ls:List Addr}{rs:List (List Rw)}{l:Addr}{r:List Rw}{xs:List V},fV H ls rs->H l=some (.lst xs)->aj H (r.map Ov) xs->fV H (ls++[l]) (rs++[r])
 | [],[],l,r,xs,_,e,a=>⟨⟨xs,e,a⟩,trivial⟩
 | l::ls,r::rs,_,_,_,h,e,a=>⟨h.1,fV.snoc h.2 e a⟩
 | [],_::_,_,_,_,h,_,_=>h.elim
 | _::_,[],_,_,_,h,_,_=>h.elim
theorem fV.all{H:Hp}:∀{ls:List Addr}{rs:List (List Rw)},fV H ls rs->∀b∈ls,∃xs,H b=some (.lst xs)
 | [],[],_,b,hb=>by simp at hb
 | l::ls,r::rs,h,b,hb=>by
  rcases bN.mp hb with e | e
  ·subst e; obtain⟨⟨xs,e,_⟩,_⟩:=h; exact⟨xs,e⟩
  ·exact fV.all h.2 b e
 | [],_::_,h,_,_=>h.elim
 | _::_,[],h,_,_=>h.elim
structure bK(C:Addr)(H:Hp)(a:Ya)(y:Yd):Prop where
 ob:∃dx,H a.p=some (.ins C dx (Fi y.tot a.lo a.dp a.dn a.ds a.dt a.lp))
 lo:H a.lo=some (.lst (y.ns.map V.str))
 dp:∃vs,H a.dp=some (.dK (zK y.ns vs))/\aj H (y.ps.map dh) vs
 dn:H a.dn=some (.dK (zK y.ns (y.os.map lD)))
 ds:∃vs,H a.ds=some (.dK (zK y.ns vs))/\aj H (y.ss.map n_) vs
 dt:∃vs,H a.dt=some (.dK (zK y.ns vs))/\aj H (y.ts.map h_) vs
 lp:H a.lp=some (.lst (a.zZ.map V.ref))
 pa:fV H a.zZ y.pa
 nd:a.own.Nodup
theorem bK.keep{C:Addr}{H H':Hp}{a:Ya}{y:Yd}(A:bK C H a y)(m:dH H H')(k:∀b∈a.own,∀o,H b=some o->H' b=some o):bK C H' a y:=by
 obtain⟨⟨dx,h1⟩,h2,⟨v3,h3,g3⟩,h4,⟨v5,h5,g5⟩,⟨v6,h6,g6⟩,h7,h8,h9⟩:=A;have kk:∀b o,b∈[a.p,a.lo,a.dp,a.dn,a.ds,a.dt,a.lp]->H b=some o->H' b=some o:=fun b o hb e=>k b (RP _ hb) o e;exact⟨⟨dx,kk _ _ (by simp) h1⟩,kk _ _ (by simp) h2,⟨v3,kk _ _ (by simp) h3,aj.kp m _ _ (g_ _) g3⟩,kk _ _ (by simp) h4,⟨v5,kk _ _ (by simp) h5,aj.kp m _ _ (gq _) g5⟩,⟨v6,kk _ _ (by simp) h6,aj.kp m _ _ (lr _) g6⟩,kk _ _ (by simp) h7,h8.keep m fun b hb=>k b (ju _ hb),h9⟩
theorem bK.mono{C:Addr}{H H':Hp}{a:Ya}{y:Yd}(A:bK C H a y)(s:aL H H'):bK C H' a y:=A.keep s.kp fun b _ o e=>s b o e
theorem bK.al{C:Addr}{H:Hp}{a:Ya}{y:Yd}(A:bK C H a y):∀b∈a.own,∃o,H b=some o/\∀xs,o≠.tup xs:=fun b hb=>by
 obtain⟨⟨dx,h1⟩,h2,⟨v3,h3,g3⟩,h4,⟨v5,h5,g5⟩,⟨v6,h6,g6⟩,h7,h8,h9⟩:=A;rcases iJ.mp hb with h | h
 ·simp only[bN,e_,or_false] at h;rcases h with rfl | rfl | rfl | rfl | rfl | rfl | rfl
  ·exact⟨_,h1,fun _ z=>by cases z⟩
  ·exact⟨_,h2,fun _ z=>by cases z⟩
  ·exact⟨_,h3,fun _ z=>by cases z⟩
  ·exact⟨_,h4,fun _ z=>by cases z⟩
  ·exact⟨_,h5,fun _ z=>by cases z⟩
  ·exact⟨_,h6,fun _ z=>by cases z⟩
  ·exact⟨_,h7,fun _ z=>by cases z⟩
 ·obtain⟨xs,e⟩:=h8.all b h;exact⟨_,e,fun _ z=>by cases z⟩
theorem bK.kp{C:Addr}{H H':Hp}{a:Ya}{y:Yd}(A:bK C H a y)(f:Fr a.own H H'):dH H H':=f.kp fun b hb xs z=>by
 obtain⟨o,e,n⟩:=A.al b hb;rw[e] at z; cases z; exact n _ rfl
theorem bK.off{C:Addr}{H H':Hp}{a:Ya}{y:Yd}{S:List Addr}(A:bK C H a y)(f:Fr S H H')(m:dH H H')(d:∀b∈a.own,b∉S):bK C H' a y:=A.keep m fun b hb o e=>f b o e (d b hb)
structure ZY(K:Frag)(C:Addr):Prop where
 cl:Gh K C
 n1:dF K C "total"
 n2:dF K C "order"
 n3:dF K C "posts"
 n4:dF K C "onwards"
 n5:dF K C "stands"
 n6:dF K C "tallies"
 n7:dF K C "past"
section
variable{C:Addr}{H:Hp}{a:Ya}{y:Yd}{Q:VK}
theorem Fl.order(Z:ZY K C)(A:bK C H a y)(q:Q (.ref a.lo) H):∃p C' dx fs v,V.ref a.p=.ref p/\H p=some (.ins C' dx fs)/\Gh K C'/\dF K C' "order" /\ fs.lookup ("order" : Str)=some v/\Q v H:=by
 obtain⟨dx,h⟩:=A.ob;exact⟨_,_,_,_,_,rfl,h,Z.cl,Z.n2,pW ..,q⟩
theorem Fl.stands(Z:ZY K C)(A:bK C H a y)(q:Q (.ref a.ds) H):∃p C' dx fs v,V.ref a.p=.ref p/\H p=some (.ins C' dx fs)/\Gh K C'/\dF K C' "stands" /\ fs.lookup ("stands" : Str)=some v/\Q v H:=by
 obtain⟨dx,h⟩:=A.ob;exact⟨_,_,_,_,_,rfl,h,Z.cl,Z.n5,ql ..,q⟩
theorem Me.of{m:Str}{R:Addr->Prop}(A:bK C H a y)(h:∀t lo dp dn ds dt lp,(Fi t lo dp dn ds dt lp).lookup m=none)(q:R a.p):∃p dx fs,V.ref a.p=.ref p/\H p=some (.ins C dx fs)/\fs.lookup m=none/\R p:=by
 obtain⟨dx,e⟩:=A.ob;exact⟨_,_,_,rfl,e,h ..,q⟩
end
structure Jd(s:jk):Prop where
 r:0<=s.r
 c:s.cs.length=5
 cn:∀y∈s.cs,0<=y
 u:s.us.length=3
 ul:∀y∈s.us,y.length=3
theorem Jd.is{s:jk}(h:Jd s):FZ s:=⟨h.c,h.u,h.ul⟩
theorem StL.n{s:jk}(h:StL s):Jd s:=⟨h.r,h.c,h.cn,h.u,fun y hy=>by obtain⟨a,b,c,rfl,_⟩:=h.ul y hy; rfl⟩
def hnd(s:jk):Int:=s.r+s.cs.sum
theorem Tr{s:jk}(h:Jd s):0<=hnd s:=by
 have:=xH _ h.cn;have:=h.r;unfold hnd; omega
def hands(ss:List jk):Int:=(ss.map hnd).sum
structure fB(y:Yd):Prop where
 nn:y.ns.Nodup
 n1:1<=y.ns.length
 n5:y.ns.length<=5
 lp:y.ps.length=y.ns.length
 lo:y.os.length=y.ns.length
 ls:y.ss.length=y.ns.length
 lt:y.ts.length=y.ns.length
 ng:∀n∈y.ns,∃cs,n=tx cs/\U_ cs
 pg:∀x∈y.ps,uz x
 og:∀(i:Nat) s,y.os[i]?=some (some s)->s∈y.ns.drop (i+1)
 sg:∀s∈y.ss,Jd s
 tg:∀t∈y.ts,t.length=3
 hs:hands y.ss<=y.tot
 lm:(y.ps.map gm.lo).sum<=y.tot
 pn:y.pa.length<=500
 pl:∀r∈y.pa,r.length<=5
abbrev T3:=Str×gm×Option Str
def Ju(t:T3):PyData:=.tuple [.str t.1,dh t.2.1,Jf t.2.2]
theorem Zb(t:T3):uy (Ju t)=true:=by
 unfold Ju;simp[uy,bH,g8,Sw]
theorem mX(ts:List T3):bH (ts.map Ju)=true:=bC.mpr fun d hd=>by obtain⟨x,_,rfl⟩:=cV.mp hd; exact Zb x
theorem Rm{H:Hp}{t:T3}{v:V}(h:At H (Ju t) v):∃a vp,v=.ref a/\H a=some (.tup [.str t.1,vp,lD t.2.2])/\At H (dh t.2.1) vp:=by
 obtain⟨a,xs,rfl,h1,h2⟩:=bB h;obtain⟨x0,_,rfl,b0,h2⟩:=aj.aR h2;obtain⟨x1,_,rfl,b1,h2⟩:=aj.aR h2;obtain⟨x2,_,rfl,b2,h2⟩:=aj.aR h2;cases aj.iu h2;have e0:x0=.str t.1:=by unfold At at b0; exact b0
 have e2:=Yg b2;subst e0 e2;exact⟨a,x1,rfl,h1,b1⟩
structure Uy(H:Hp)(ts:List T3)(ys mV:List V):Prop where
 ly:ys.length=ts.length
 lv:mV.length=ts.length
 at_:∀(i:Nat)(t:T3),ts[i]?=some t->∃a vp,ys[i]?=some (.ref a)/\mV[i]?=some vp/\H a=some (.tup [.str t.1,vp,lD t.2.2])
 ap:aj H ((ts.map (·.2.1)).map dh) mV
theorem Uy.mono{H H':Hp}{ts:List T3}{ys mV:List V}(h:Uy H ts ys mV)(m:dH H H'):Uy H' ts ys mV:=
 ⟨h.ly,h.lv,fun i t e=>by obtain⟨a,vp,h1,h2,h3⟩:=h.at_ i t e; exact⟨a,vp,h1,h2,m _ _ h3⟩,aj.kp m _ _ (g_ _) h.ap⟩
theorem uF{H:Hp}:∀{ts:List T3}{ys:List V},aj H (ts.map Ju) ys->∃mV,Uy H ts ys mV
 | [],ys,h=>by
  cases aj.iu h;exact⟨[],rfl,rfl,fun i t e=>by simp at e,aj.nil⟩
 | t::ts,ys,h=>by
  obtain⟨x,r,rfl,h1,h2⟩:=aj.aR h;obtain⟨a,vp,rfl,e,ap⟩:=Rm h1;obtain⟨mV,g1,g2,g3,g4⟩:=uF h2;refine⟨vp::mV,by simp[g1],by simp[g2],fun i u q=>?_,aj.cons ap g4⟩
  cases i with
  | zero=>cases q; exact⟨a,vp,rfl,rfl,e⟩
  | succ i=>exact g3 i u q
def uD(ts:List T3)(mV:List V)(i:Nat):St:=match ts[i]? with
 | some t=>[some (.str t.1),some (mV.getD i .non),some (lD t.2.2)]
 | none=>[none,none,none]
theorem jN(ts:List T3)(mV:List V)(i:Nat):(uD ts mV i).length=3:=by
 unfold uD;cases ts[i]? <;> rfl
theorem yG{K:Frag}{H:Hp}{ts:List T3}{ys mV:List V}(h:Uy H ts ys mV){i:Nat}{x:V}(hx:ys[i]?=some x){cap:St}{R:St->Hp->Prop}(q:R (uD ts mV i++cap) H):Kp K 3 (jA (eO 0) (jA (eO 1) (jA (eO 2) Bc))) x (List.replicate 3 none++cap) H R:=by
 have hi:i<ts.length:=by rw[<- h.ly]; exact(iY.mp hx).1
 have et:ts[i]?=some ts[i]:=dC hi;obtain⟨a,vp,h1,h2,h3⟩:=h.at_ i _ et;rw[hx] at h1;cases h1;refine⟨a,_,rfl,eX.of h3,rfl,?_⟩;unfold uD at q;rw[et] at q;dsimp only at q;rw[iV,h2] at q;exact q
theorem jC{ts:List T3}{mV:List V}{i:Nat}{t:T3}(e:ts[i]?=some t):uD ts mV i=[some (.str t.1),some (mV.getD i .non),some (lD t.2.2)]:=by
 unfold uD; rw[e]
theorem mG{H:Hp}:∀{ns:List Str}{ys:List V},aj H (ns.map .str) ys->ys=ns.map V.str
 | [],_,h=>aj.iu h
 | n::ns,ys,h=>by
  obtain⟨x,r,rfl,h1,h2⟩:=aj.aR h;have e:x=.str n:=by unfold At at h1; exact h1
  rw[e,mG h2]; rfl
theorem oJ(ns:List Str):bH (ns.map PyData.str)=true:=bC.mpr fun d hd=>by obtain⟨z,_,rfl⟩:=cV.mp hd; rfl
structure ZL(K:Frag)(mg:Str->Option AA)(bQ:Addr):Prop where
 Oc:mg "BadYard" = some (.ref bQ)
 J8:excIn K bQ YZ "ValueError.__new__" = true
 Kv:exmOne K (.ref bQ) (.ref bQ)=some true
variable{bQ:Addr}
def wV(CB:Addr):Sp:=fun vs H Q E=>∃(t:Int)(p:Addr)(ys:List V)(xs:List gm),vs=[.int t,.ref p]/\H p=some (.lst ys)/\aj H (xs.map dh) ys/\xs.length<=100/\((xs.map gm.lo).sum<=t->∀H',aL H H'->Q .non H')/\(t<(xs.map gm.lo).sum->∀H',aL H H'->E (.ref CB) none H')
theorem oU:bf AO AO (aK lO):=(by walk_at "c")
theorem yM(F:iT K "check_least" "check_least" lO f fd)(B:Bi mg)(Z:ZL K mg bQ):bI P w K mg base (nZ P w) (k+1) f fd AO (wV bQ):=by
 refine F.okE oU (hbody:=fun cdv A outer s H vs Q E U3 hr h=>?_)
 obtain⟨t,p,ys,xs,rfl,hp,ha,hl,q,qE⟩:=h;have ND:=oU.nd;refine⟨_,(aH (b_ (bc pK (pb (dB rfl) B.sum jg (ao (dR (N':=["post"]) (js:=[]) rfl (bM (K:=K) rfl (pv 1)) sr.Wy rfl ⋯ rfl (fun fp s' H'=>(bu aZ (bu aZ (pv 0) aq) aq))) ak)) (pv 0) (bj _)) (aH (R1 ⟨Z.Oc,Z.J8⟩ U3 (ao fu ak))) bD)),?_⟩
 ext;have hlen:=ha.length;rw[bW] at hlen;refine lF ((xs.map gm.lo).map .int) (fun R hR=>by ext; exact hR) hp (by simp; omega) ∅ (gk _) (fun i x d H' hx hd s' R hR=>?_) fun acc zs H' f' s' e' a'=>?_
 ·rw[cM,cM] at hd;obtain⟨d',hd',ad⟩:=ha.get hx;rw[cM] at hd';cases ex:xs[i]? with
  | none=>rw[ex] at hd; cases hd
  | some x'=>
   rw[ex] at hd hd';cases hd;cases hd';obtain⟨a0,xs0,rfl,h1,h2⟩:=bB (ad.mono s');obtain⟨x0,_,rfl,b0,h2⟩:=aj.aR h2;obtain⟨x1,_,rfl,b1,h2⟩:=aj.aR h2;obtain⟨x2,_,rfl,b2,h2⟩:=aj.aR h2;obtain⟨c0,cs0,rfl,g1,g2⟩:=bB b2;have:=cz (cs:=[x'.lo,x'.hi]) g2;subst this;ext;refine Ix.tup h1 (aV (j:=2) rfl) (Ix.tup g1 (aV (j:=0) rfl) ?_);exact hR _ _ (aL.refl _) (At.int _)
 ·have:=cz a';subst this;refine⟨acc,_,rfl,.inl e',?_⟩;by_cases hs:t<(xs.map gm.lo).sum
  ·rw[aX (by simpa using hs)]
   exact⟨by show 1<=sizeLine; decide,fun H2 s2=>qE hs _ (s'.trans s2)⟩
  ·rw[aQ (by simpa using hs)]
   exact q ∅ H' s'
def XX:Sp:=fun vs H Q _=>∃(o:Option Str)(p:Addr)(ns:List Str),vs=[lD o,.ref p]/\H p=some (.lst (ns.map V.str))/\(∀z,o=some z->z∈ns)/\∀H',aL H H'->Q .non H'
theorem nO:bf AQ AQ (aK jR):=(by walk_at "c")
theorem wG(F:iT K "check_onward" "check_onward" jR f fd):bI P w K mg base gQ (k+1) f fd AQ XX:=by
 refine F.ok nO (hbody:=(0:))
 obtain⟨o,p,ns,rfl,hp,ho,q⟩:=h;have ND:=nO.nd;refine⟨_,(aH (b_ (PW.pt (rE (bc qj (pv 0) gf (bj _)) (m9 (bc (O6 (K:=K) rfl) (pv 0) (pv 1) (by with_unfolding_all rfl))))) (aH Cu) bD)),?_⟩
 ext;cases o with
 | none=>exact⟨trivial,by rw[aQ (by simp[lD])]; exact q H (aL.refl H)⟩
 | some z=>
  refine⟨trivial,?_⟩;rw[aX (by simp[lD])]
  refine⟨p,_,rfl,.inl (cG.of hp),rfl,Dh ns,_,rfl,?_⟩;rw[aX rfl,show lD (some z)=.str z from rfl,Nq,jF (ho z rfl),aQ ⋯]
  exact q H (aL.refl H)
def Rq:Sp:=fun vs H Q _=>∃(t:Int)(p p':Addr)(ys zs:List V)(ss:List jk),vs=[.int t,.ref p,.ref p']/\H p=some (.lst ys)/\H p'=some (.lst zs)/\aj H (ss.map n_) zs/\(∀s∈ss,Jd s)/\ys.length=ss.length/\ss.length<=100/\hands ss<=t/\∀H',aL H H'->Q .non H'
theorem nM:bf AR AR (aK jQ):=(by walk_at "c")
theorem wF(F:iT K "check_stands" "check_stands" jQ f fd)(B:Bi mg)(d_:Ct P w K mg base k "hands_of" ["stand"] wW):bI P w K mg base gQ (k+1) f fd AR Rq:=by
 refine F.ok nM (hbody:=(0:))
 obtain⟨t,p,p',ys,zs,ss,rfl,hp,hp',ha,hS,hl,h100,hh,q⟩:=h;have ND:=nM.nd;refine⟨_,(aA (b_ (bc Cy (pb (cX (K:=K) rfl) B.len fQ (ao (pv 2) ak)) (pb (cX (K:=K) rfl) B.len fQ (ao (pv 1) ak)) (bj _)) (aH Cu) bD) (aH (b_ (bc pK (pb (dB rfl) B.sum jg (ao (dR (N':=["stand"]) (js:=[]) rfl (bM (K:=K) rfl (pv 2)) sr.Wy rfl ⋯ rfl (fun fp s' H'=>(pf d_ hr (ao (pv 0) ak)))) ak)) (pv 0) (bj _)) (aH Cu) bD))),?_⟩
 have hlen:=ha.length;rw[bW] at hlen;ext;refine⟨p',_,rfl,.inl (cG.of hp'),p,_,rfl,.inl (cG.of hp),?_⟩;ext;rw[aQ (by simp; omega)]
 refine lF ((ss.map hnd).map .int) (fun R hR=>by ext; exact hR) hp' (by simp; omega) ∅ (gk _) (fun i x d H' hx hd s' R hR=>?_) fun acc us H' f' s' e' a'=>?_
 ·rw[cM,cM] at hd;obtain⟨d',hd',ad⟩:=ha.get hx;rw[cM] at hd';cases ex:ss[i]? with
  | none=>rw[ex] at hd; cases hd
  | some x'=>
   rw[ex] at hd hd';cases hd;cases hd';obtain⟨a0,xs0,rfl,h1,h2⟩:=bB (ad.mono s');obtain⟨x0,_,rfl,b0,h2⟩:=aj.aR h2;obtain⟨x1,_,rfl,b1,h2⟩:=aj.aR h2;obtain⟨x2,_,rfl,b2,h2⟩:=aj.aR h2;obtain⟨c0,cs0,rfl,g1,g2⟩:=bB b2;have:=cz (cs:=x'.cs) g2;subst this;have e1:x1=.int x'.r:=by unfold At at b1; exact b1
   subst e1;ext;exact⟨_,_,_,_,_,_,_,rfl,rfl,h1,g1,hR _ _ (aL.refl _) (At.int _)⟩
 ·have:=cz a';subst this;refine⟨acc,_,rfl,.inl e',?_⟩;rw[aQ (by unfold hands at hh; simpa using hh)]
  exact q H' s'
structure QD(t:Int)(ts:List T3):Prop where
 n1:1<=ts.length
 n5:ts.length<=5
 nn:(ts.map (·.1)).Nodup
 ng:∀x∈ts,∃cs,x.1=tx cs/\U_ cs
 og:∀(i:Nat)(x:T3) z,ts[i]?=some x->x.2.2=some z->z∈(ts.map (·.1)).drop (i+1)
 lm:((ts.map (·.2.1)).map gm.lo).sum<=t
def X3:Sp:=fun vs H Q _=>∃(t:Int)(p:Addr)(ys:List V)(ts:List T3),vs=[.int t,.ref p]/\H p=some (.lst ys)/\aj H (ts.map Ju) ys/\QD t ts/\∀H',aL H H'->Q .non H'
theorem oO:bf ["total","posts","names","place","name","post","onward"] AO (aK lN):=(by walk_at "c")
theorem yL(F:iT K "check_posts" "check_posts" lN f fd)(B:Bi mg)(O:Co K mg)(vB:Ct P w K mg base k "is_name" ["thing"] JB)(kJ:Ct P w K mg base k "check_onward" AQ XX)(fK:Va P w K mg base k "check_least" AO (wV bQ)):bI P w K mg base gQ (k+1) f fd AO X3:=by
 refine F.ok oO (hbody:=(0:))
 obtain⟨t,p,ys,ts,rfl,hp,ha,T,q⟩:=h;have ND:=oO.nd;refine⟨_,(aA (b_ (jc (Hu Hy Hy aq (pb (cX (K:=K) rfl) B.len fQ (ao (pv 1) ak)) (El O.Lf))) (aH Cu) bD) (aA (j7 (i:=2) ND rfl (by walk_at "o") (nt:=3) (N':=["name","post","onward"]) (js:=[]) rfl (bM (K:=K) rfl (pv 1)) oA.of (fun fp s' H'=>(bL (K:=K) (n:=3) rfl rfl (aF (aGN AS 0) (aF (aGN AS 1) (aF (aGN AS 2) bG))))) (fun fp s' H'=>jh) (fun fp s' H'=>(pv 0))) (aA (b_ (PW.pt (yC (bc qI (pb Dq B.len fQ (ao (pt (Dp rfl) B.set Uq (ao (pv 2) ak)) ak)) (pb (cX (K:=K) rfl) B.len fQ (ao (pv 2) ak)) (bj _)) (rD (jc (dX (pb (mQ rfl) B.all zU (ao (dR (N':=["name"]) (js:=[]) rfl (bM (K:=K) rfl (pv 2)) sr.Wy rfl ⋯ rfl (fun fp s' H'=>(pf vB hr (ao (pv 0) ak)))) ak))))))) (aH Cu) bD) (aA (gK PassesOwn.never rfl (Ej (K:=K) rfl B.enumerate (ao (pv 1) ak)) (bL (K:=K) (n:=2) rfl rfl (aF (aG (i:=3)) (aF (bL (K:=K) (n:=3) rfl rfl (aF (aG (i:=4)) (aF (aG (i:=5)) (aF (aG (i:=6)) bG)))) bG))) (aH (cQ (pf kJ hr (ao (pv 6) (ao (cR wX (pv 2) (dq (aO bz (pv 3) aq)) dN) ak)))))) (aH (cQ (pf fK.calm hr (ao (pv 0) (ao (mK (nt:=3) (N':=["name","post","onward"]) (js:=[]) rfl (bM (K:=K) rfl (pv 1)) oA.of (fun fp s' H'=>(bL (K:=K) (n:=3) rfl rfl (aF (aGN AS 0) (aF (aGN AS 1) (aF (aGN AS 2) bG))))) (fun fp s' H'=>jh) (fun fp s' H'=>(pv 1))) ak))))))))),?_⟩
 have hlen:=ha.length;rw[bW] at hlen;have T1:=T.n1;have T5:=T.n5;simp only[sO 15];ext;refine⟨p,ys,rfl,.inl (cG.of hp),⟨_,_,rfl,rfl,?_⟩⟩;rw[aX (by simp; omega)]
 refine⟨_,_,rfl,rfl,?_⟩;rw[aQ (by simp; omega)]
 obtain⟨mV,TA⟩:=uF ha;refine qu ((ts.map (·.1)).map .str) (uD ts mV) (jN ts mV) (fun R hR=>by ext; exact hR) hp (by simp; omega) ∅ (oJ _) ?_ ?_
 ·intro i x d H' hx hd s';refine⟨fun R hR=>yG (TA.mono s'.kp) hx hR,fun R hR=>?_⟩;have hi:i<ts.length:=by rw[<- hlen]; exact(iY.mp hx).1
  have et:ts[i]?=some ts[i]:=dC hi;rw[cM,cM,et] at hd;cases hd;rw[jC et];ext;exact hR _ _ (aL.refl _) (At.str _)
 ·intro acc us H1 f1 s1 e1 a1;have:=mG a1;subst this;refine⟨acc,ts.map (·.1),rfl,e1,by rw[bW]; omega,fun pz H2 f2 s2 e2=>⟨pz,_,rfl,e2,?_,acc,_,rfl,.inl (cG.of (s2 _ _ e1)),?_⟩⟩
  ·have:=(qm (ts.map (·.1))).1;rw[bW] at this; omega
  have hdc:=qm (ts.map (·.1));refine⟨_,_,rfl,rfl,?_⟩
  rw[aQ (by
   intro z;have z':=rC z;rw[bW] at z'
   exact hdc.2.mp ∅ T.nn)]
  have Qh:=s2 _ _ e1;have s12:=s1.trans s2;refine lF ((ts.map fun _=>true).map .bool) (fun R hR=>by ext; exact hR) Qh (by simp) (by simp; omega) (bC.mpr fun d hd=>by obtain⟨z,_,rfl⟩:=cV.mp hd; rfl) (fun i x d H' hx hd s' R hR=>?_) fun ab ub H3 f3 s3 e3 a3=>?_
  ·rw[cM,cM] at hx hd;cases et:ts[i]? with
   | none=>rw[et] at hx; cases hx
   | some t=>
    rw[et] at hx hd;cases hx;cases hd;obtain⟨cs,ec,hg⟩:=T.ng t (dz et);ext;rw[ec];exact Name.of hg fun bO s''=>hR _ _ s'' (At.bool _)
  ·have eb:ub=(ts.map fun _=>true).map V.bl:=by
    have gen:∀(bs:List Bool)(us:List V),aj H3 (bs.map .bool) us->us=bs.map V.bl:=by
     intro bs
     induction bs with
     | nil=>intro us h; exact aj.iu h
     | cons b bs ih=>
      intro us h;obtain⟨x,r,rfl,h1,h2⟩:=aj.aR h;have e:x=.bl b:=by unfold At at h1; exact h1
      rw[e,ih r h2]; rfl
    exact gen _ _ a3
   subst eb;refine⟨ab,_,rfl,e3,?_⟩;rw[aQ (by simp)]
   have pF:=s12.trans s3;have Nz:=s3 _ _ Qh;rw[BL];ext;refine EK.of (pF _ _ hp) (fun i σ H'=>∃o3 o4 o5 o6,σ=[some (.int t),some (.ref p),some (.ref acc),o3,o4,o5,o6]/\aL H3 H') ⟨_,_,_,_,rfl,aL.refl _⟩ (fun i σ H' _ ⟨_,_,_,_,_,z⟩=>z _ _ (pF _ _ hp)) ?_ ?_
   ·rintro i x σ H4 p4 hx ⟨o3,o4,o5,o6,rfl,s4⟩ f4;have hi:i<ts.length:=by rw[<- hlen]; exact(iY.mp hx).1
    have et:ts[i]?=some ts[i]:=dC hi;have X7:=pF.trans s4;obtain⟨a0,vp,g1,g2,g3⟩:=(TA.mono X7.kp).at_ i _ et;rw[hx] at g1;cases g1;have s5:=aP f4 (HO.tup [V.int (i:Nat),.ref a0]);have e5:upd H4 p4 (HO.tup [V.int (i:Nat),.ref a0]) p4=some (.tup [V.int (i:Nat),.ref a0]):=aB;generalize upd H4 p4 (HO.tup [V.int (i:Nat),.ref a0])=H5 at s5 e5 ⊢;refine⟨p4,_,rfl,eX.of e5,rfl,?_⟩;ext;refine⟨a0,_,rfl,eX.of (s5 _ _ g3),rfl,?_⟩;ext;have eA:=s5 _ _ (s4 _ _ Nz);refine⟨acc,_,rfl,cG.of eA,fun q6 f6=>?_⟩;rw[pX ∅,show((i:Int)+1).toNat=i+1 by omega,<- List.map_drop]
    have s6:=aP f6 (HO.lst (((ts.map (·.1)).drop (i+1)).map V.str));refine⟨_,q6,_,rfl,aB,fun z hz=>T.og i _ z et hz,fun H7 s7=>⟨_,_,_,_,rfl,s4.trans (s5.trans (s6.trans s7))⟩⟩
   ·rintro σ H4 ⟨o3,o4,o5,o6,rfl,s4⟩;ext;have X7:=pF.trans s4;refine qu ((ts.map (·.2.1)).map dh) (uD ts mV) (jN ts mV) (fun R hR=>by ext; exact hR) (X7 _ _ hp) (by simp; omega) ∅ (g_ _) ?_ ?_
    ·intro i x d H' hx hd s';have TB:=TA.mono (X7.trans s').kp;refine⟨fun R hR=>yG TB hx hR,fun R hR=>?_⟩;have hi:i<ts.length:=by rw[<- hlen]; exact(iY.mp hx).1
     have et:ts[i]?=some ts[i]:=dC hi;obtain⟨vp,ev,av⟩:=TB.ap.nth hd;rw[jC et];ext;rw[iV,ev];exact hR _ _ (aL.refl _) av
    ·intro ac2 us2 H5 f5 s5 e5 a5;exact(show wV bQ _ _ _ E0 from⟨t,ac2,us2,ts.map (·.2.1),rfl,e5,a5,by simp; omega,fun _ H6 s6=>q H6 (X7.trans (s5.trans s6)),fun z=>absurd T.lm ∅⟩)
def W8(t:Int):List (Str×V):=[("total",.int t)]
theorem pf1(t:Int):j0 "total" (.int t) []=W8 t:=by kernel_rfl
def T8(t:Int)(lo:Addr):List (Str×V):=[("total",.int t),("order",.ref lo)]
theorem pf2(t:Int)(lo:Addr):j0 "order" (.ref lo) (W8 t)=T8 t lo:=by kernel_rfl
def QL(t:Int)(lo dp:Addr):List (Str×V):=[("total",.int t),("order",.ref lo),("posts",.ref dp)]
theorem pf3(t:Int)(lo dp:Addr):j0 "posts" (.ref dp) (T8 t lo)=QL t lo dp:=by kernel_rfl
def QK(t:Int)(lo dp dn:Addr):List (Str×V):=[("total",.int t),("order",.ref lo),("posts",.ref dp),("onwards",.ref dn)]
theorem pf4(t:Int)(lo dp dn:Addr):j0 "onwards" (.ref dn) (QL t lo dp)=QK t lo dp dn:=by kernel_rfl
def QJ(t:Int)(lo dp dn ds:Addr):List (Str×V):=[("total",.int t),("order",.ref lo),("posts",.ref dp),("onwards",.ref dn),("stands",.ref ds)]
theorem pf5(t:Int)(lo dp dn ds:Addr):j0 "stands" (.ref ds) (QK t lo dp dn)=QJ t lo dp dn ds:=by kernel_rfl
def U4(t:Int)(lo dp dn ds dt:Addr):List (Str×V):=[("total",.int t),("order",.ref lo),("posts",.ref dp),("onwards",.ref dn),("stands",.ref ds),("tallies",.ref dt)]
theorem pf6(t:Int)(lo dp dn ds dt:Addr):j0 "tallies" (.ref dt) (QJ t lo dp dn ds)=U4 t lo dp dn ds dt:=by kernel_rfl
def fl7(t:Int)(lo dp dn ds dt lp:Addr):List (Str×V):=[("total",.int t),("order",.ref lo),("posts",.ref dp),("onwards",.ref dn),("stands",.ref ds),("tallies",.ref dt),("past",.ref lp)]
theorem pf7(t:Int)(lo dp dn ds dt lp:Addr):j0 "past" (.ref lp) (U4 t lo dp dn ds dt)=fl7 t lo dp dn ds dt lp:=by kernel_rfl
theorem Qf(t:Int)(lo dp dn:Addr):(QK t lo dp dn).lookup ("order" : Str)=some (.ref lo):=by kernel_rfl
theorem Qe(t:Int)(lo dp dn ds:Addr):(QJ t lo dp dn ds).lookup ("order" : Str)=some (.ref lo):=by kernel_rfl
def gM(x:gm):jk:=⟨0,x.lo,[0,0,0,0,0],0,0,[[0,0,0],[0,0,0],[0,0,0]]⟩
def Ib(t:Int)(ts:List T3)(ss:List jk):Yd:=⟨t,ts.map (·.1),ts.map (·.2.1),ts.map (·.2.2),ss,ts.map fun _=>[0,0,0],[]⟩
def Jx(C:Addr):Sp:=fun vs H Q _=>∃(y dx:Addr)(t:Int)(p:Addr)(ys:List V)(ts:List T3)(sv:V)(ss:List jk),vs=[.ref y,.int t,.ref p,sv]/\H y=some (.ins C dx [])/\H p=some (.lst ys)/\aj H (ts.map Ju) ys/\QD t ts/\(∀x∈ts,uz x.2.1)/\((sv=.non/\ss=ts.map fun x=>gM x.2.1)\/∃l zs,sv=.ref l/\H l=some (.lst zs)/\aj H (ss.map n_) zs)/\ss.length=ts.length/\(∀z∈ss,Jd z)/\hands ss<=t /\
 ∀a H',a.p=y->bK C H' a (Ib t ts ss)->a.zZ=[]->(∀b∈a.own,b=y\/H b=none)->Fr [y] H H'->Q .non H'
theorem lB:bf AT AT (aK i_):=(by walk_at "c")
theorem tL{C T:Addr}(F:Lh K "__init__" "Yard.__init__" i_ f fd T)(B:Bi mg)(Z:ZY K C)(lZ:Ct P w K mg base k "check_posts" AO X3)(lY:Ct P w K mg base k "first_stand" ["post"] Ma)(kI:Ct P w K mg base k "check_stands" AR Rq):bI P w K mg base (nZ P w) (k+1) f fd AT (Jx C):=by
 refine F.okE lB (hbody:=fun cdv A outer s H vs Q E U3 hr h=>?_)
 obtain⟨y,dx,t,p,ys,ts,sv,ss,rfl,hy,hp,ha,T3,hps,hsv,hls,hS,hh,q⟩:=h;have ND:=lB.nd;refine⟨_,(aA (cQ (pf lZ hr (ao (pv 1) (ao (pv 2) ak)))) (aA (b_ (bc yH (pv 3) gf (bj _)) (aH (j7 (i:=3) ND rfl (by walk_at "o") (nt:=3) (N':=["name","post","onward"]) (js:=[]) rfl (bM (K:=K) rfl (pv 2)) oA.of (fun fp s' H'=>(bL (K:=K) (n:=3) rfl rfl (aF (aGN AS 0) (aF (aGN AS 1) (aF (aGN AS 2) bG))))) (fun fp s' H'=>jh) (fun fp s' H'=>(pf lY hr (ao (pv 1) ak))))) bD) (aA (cQ (pf kI hr (ao (pv 1) (ao (pv 2) (ao (pv 3) ak))))) (aA (m_ (K:=K) rfl (pv 0) (pv 1)) (aA (m_ (K:=K) rfl (pv 0) (mK (nt:=3) (N':=["name","post","onward"]) (js:=[]) rfl (bM (K:=K) rfl (pv 2)) oA.of (fun fp s' H'=>(bL (K:=K) (n:=3) rfl rfl (aF (aGN AS 0) (aF (aGN AS 1) (aF (aGN AS 2) bG))))) (fun fp s' H'=>jh) (fun fp s' H'=>(pv 0)))) (aA (m_ (K:=K) rfl (pv 0) (yE (nt:=3) (N':=["name","post","onward"]) (js:=[]) rfl (bM (K:=K) rfl (pv 2)) ux.of (fun fp s' H'=>(bL (K:=K) (n:=3) rfl rfl (aF (aGN AS 0) (aF (aGN AS 1) (aF (aGN AS 2) bG))))) (fun fp s' H'=>(pv 0)) (fun fp s' H'=>(pv 1)))) (aA (m_ (K:=K) rfl (pv 0) (yE (nt:=3) (N':=["name","post","onward"]) (js:=[]) rfl (bM (K:=K) rfl (pv 2)) ux.of (fun fp s' H'=>(bL (K:=K) (n:=3) rfl rfl (aF (aGN AS 0) (aF (aGN AS 1) (aF (aGN AS 2) bG))))) (fun fp s' H'=>(pv 0)) (fun fp s' H'=>(pv 2)))) (aA (m_ (K:=K) rfl (pv 0) (JV rfl B.dict B.zip (ao (cD (K:=K) rfl (pv 0)) (ao (pv 3) ak)))) (aA (m_ (K:=K) rfl (pv 0) (yE (nt:=1) (N':=["name"]) (js:=[]) rfl (bM (K:=K) rfl (cD (K:=K) rfl (pv 0))) ux.of (fun fp s' H'=>(aGN ["name"] 0)) (fun fp s' H'=>(pv 0)) (fun fp s' H'=>(bx (ao aq (ao aq (ao aq ak))))))) (aH (m_ (K:=K) rfl (pv 0) (bF ak)))))))))))),?_⟩
 have hlen:=ha.length;rw[bW] at hlen;have T1:=T3.n1;have T5:=T3.n5;obtain⟨mV,TA⟩:=uF ha;simp only[xO];ext;refine⟨t,p,ys,ts,rfl,hp,ha,T3,fun H1 s1=>?_⟩;refine gR.of (R:=fun σ H'=>∃l zs,σ=[some (.ref y),some (.int t),some (.ref p),some (.ref l)]/\H' l=some (.lst zs)/\aj H' (ss.map n_) zs/\aL H H') ?_ ?_
 ·rintro σ H2 ⟨l,zs,rfl,e2,a2,s2⟩;ext;have lz:=a2.length;rw[bW] at lz;refine⟨t,p,l,ys,zs,ss,rfl,s2 _ _ hp,e2,a2,hS,∅,∅,hh,fun H3 s3=>?_⟩
  have s23:=s2.trans s3;refine⟨y,C,dx,[],rfl,s23 _ _ hy,Z.cl,Z.n1,⋯,?_⟩
  have py:p≠y:=fun z=>by rw[z,hy] at hp; cases hp
  have ly:l≠y:=fun z=>by rw[z,s2 _ _ hy] at e2; cases e2
  have stp:∀{G:Hp}{fs fs':List (Str×V)},G y=some (.ins C dx fs)->Fr [y] H G->Fr [y] H (upd G y (.ins C dx fs'))/\dH G (upd G y (.ins C dx fs')):=fun {G fs fs'} g fr=>⟨fr.trans (Fr.put (by simp)),dH.put fun xs z=>by rw[g] at z; cases z⟩
  have gy3:H3 y=some (.ins C dx []):=s23 _ _ hy;have r3:Fr [y] H H3:=s23.fr _;obtain⟨r3',k3⟩:=stp (fs':=W8 t) gy3 r3;have TA3:=TA.mono (s23.kp.trans k3);have z3':=aj.kp k3 _ _ (gq _) (a2.mono s3);have hp3:upd H3 y (.ins C dx (W8 t)) p=some (.lst ys):=by rw[aJ py]; exact s23 _ _ hp
  have hl3:upd H3 y (.ins C dx (W8 t)) l=some (.lst zs):=by rw[aJ ly]; exact s3 _ _ e2
  have aau:upd H3 y (.ins C dx (W8 t)) y=some (.ins C dx (W8 t)):=aB;rw[pf1];generalize upd H3 y (.ins C dx (W8 t))=K3 at r3' k3 TA3 z3' hp3 hl3 aau ⊢;refine qu ((ts.map (·.1)).map .str) (uD ts mV) (jN ts mV) (fun R hR=>by ext; exact hR) hp3 (by simp; omega) ∅ (oJ _) ?_ ?_
  ·intro i x d H' hx hd s';refine⟨fun R hR=>yG (TA3.mono s'.kp) hx hR,fun R hR=>?_⟩;have hi:i<ts.length:=by rw[<- hlen]; exact(iY.mp hx).1
   have et:ts[i]?=some ts[i]:=dC hi;rw[cM,cM,et] at hd;cases hd;rw[jC et];ext;exact hR _ _ (aL.refl _) (At.str _)
  intro lo us4 H4 flo s4 elo a4;have:=mG a4;subst this;have gy4:=s4 _ _ aau;refine⟨y,C,dx,W8 t,rfl,gy4,Z.cl,Z.n2,(show 1<1000 by decide),?_⟩
  have MT:lo≠y:=fun z=>by rw[z,aau] at flo; cases flo
  obtain⟨r4',k4⟩:=stp (fs':=T8 t lo) gy4 (r3'.trans (s4.fr _));have TA4:=TA3.mono (s4.kp.trans k4);have z4':=aj.kp k4 _ _ (gq _) (z3'.mono s4);have hp4:upd H4 y (.ins C dx (T8 t lo)) p=some (.lst ys):=by rw[aJ py]; exact s4 _ _ hp3
  have hl4:upd H4 y (.ins C dx (T8 t lo)) l=some (.lst zs):=by rw[aJ ly]; exact s4 _ _ hl3
  have aar:upd H4 y (.ins C dx (T8 t lo)) lo=some (.lst ((ts.map (·.1)).map V.str)):=by rw[aJ MT]; exact elo
  have W4:upd H4 y (.ins C dx (T8 t lo)) y=some (.ins C dx (T8 t lo)):=aB
  have fH4:∀b,upd H4 y (.ins C dx (T8 t lo)) b=none->H b=none:=fun b z=>by
   cases q':H b with
   | none=>rfl
   | some o=>
    by_cases e:b=y
    ·rw[e,W4] at z; cases z
    ·rw[r4' b o q' (by simpa using e)] at z; cases z
  have af2:H lo=none:=by
   cases q':H lo with
   | none=>rfl
   | some o=>rw[r3' lo o q' (by simpa using MT)] at flo; cases flo
  rw[pf2];generalize upd H4 y (.ins C dx (T8 t lo))=K4 at r4' k4 TA4 z4' hp4 hl4 aar W4 fH4 ⊢;refine xf (ts.map (·.1)) ((ts.map (·.2.1)).map dh) (uD ts mV) (jN ts mV) (fun R hR=>by ext; exact hR) hp4 T3.nn (by simp; omega) (by simp; omega) ∅ (g_ _) ?_ ?_
  ·intro i x nm d H' hx hn hd s';have TC:=TA4.mono s'.kp;have hi:i<ts.length:=by rw[<- hlen]; exact(iY.mp hx).1
   have et:ts[i]?=some ts[i]:=dC hi;obtain⟨vp,ev,av⟩:=TC.ap.nth hd;rw[cM,et] at hn;cases hn;rw[jC et];refine⟨fun R hR=>yG TC hx (by rw[jC et]; exact hR),fun R hR=>by ext; exact hR,fun R hR=>?_⟩
   ext;rw[iV,ev];exact hR _ _ (aL.refl _) av
  intro dp v5 H5 fdp s5 edp a5 l5;have gy5:=s5 _ _ W4;refine⟨y,C,dx,T8 t lo,rfl,gy5,Z.cl,Z.n3,(show 2<1000 by decide),?_⟩
  have W_:dp≠y:=fun z=>by rw[z,W4] at fdp; cases fdp
  obtain⟨r5',k5⟩:=stp (fs':=QL t lo dp) gy5 (r4'.trans (s5.fr _));have TA5:=TA4.mono (s5.kp.trans k5);have z5':=aj.kp k5 _ _ (gq _) (z4'.mono s5);have a5':=aj.kp k5 _ _ (g_ _) a5;have hp5:upd H5 y (.ins C dx (QL t lo dp)) p=some (.lst ys):=by rw[aJ py]; exact s5 _ _ hp4
  have hl5:upd H5 y (.ins C dx (QL t lo dp)) l=some (.lst zs):=by rw[aJ ly]; exact s5 _ _ hl4
  have Km:upd H5 y (.ins C dx (QL t lo dp)) lo=some (.lst ((ts.map (·.1)).map V.str)):=by rw[aJ MT]; exact s5 _ _ aar
  have Tw:upd H5 y (.ins C dx (QL t lo dp)) dp=some (.dK (zK (ts.map (·.1)) v5)):=by rw[aJ W_]; exact edp
  have W3:upd H5 y (.ins C dx (QL t lo dp)) y=some (.ins C dx (QL t lo dp)):=aB
  have fH5:∀b,upd H5 y (.ins C dx (QL t lo dp)) b=none->K4 b=none:=fun b z=>by
   cases q':K4 b with
   | none=>rfl
   | some o=>
    by_cases e:b=y
    ·rw[e,W3] at z; cases z
    ·rw[aJ e,s5 _ _ q'] at z; cases z
  rw[pf3];generalize upd H5 y (.ins C dx (QL t lo dp))=K5 at r5' k5 TA5 z5' a5' hp5 hl5 Km Tw W3 fH5 ⊢;refine xf (ts.map (·.1)) ((ts.map (·.2.2)).map Jf) (uD ts mV) (jN ts mV) (fun R hR=>by ext; exact hR) hp5 T3.nn (by simp; omega) (by simp; omega) ∅ (Wn _) ?_ ?_
  ·intro i x nm d H' hx hn hd s';have TC:=TA5.mono s'.kp;have hi:i<ts.length:=by rw[<- hlen]; exact(iY.mp hx).1
   have et:ts[i]?=some ts[i]:=dC hi;rw[cM,et] at hn;cases hn;rw[cM,cM,et] at hd;cases hd;rw[jC et];refine⟨fun R hR=>yG TC hx (by rw[jC et]; exact hR),fun R hR=>by ext; exact hR,fun R hR=>?_⟩
   ext;exact hR _ _ (aL.refl _) (Sx _)
  intro dn v6 H6 fdn s6 edn a6 l6;have:=Sv a6;subst this;have gy6:=s6 _ _ W3;refine⟨y,C,dx,QL t lo dp,rfl,gy6,Z.cl,Z.n4,(show 3<1000 by decide),?_⟩
  have dny:dn≠y:=fun z=>by rw[z,W3] at fdn; cases fdn
  obtain⟨r6',k6⟩:=stp (fs':=QK t lo dp dn) gy6 (r5'.trans (s6.fr _));rw[pf4];have ho6:∀b o,b≠y->K5 b=some o->upd H6 y (.ins C dx (QK t lo dp dn)) b=some o:=fun b o e z=>by rw[aJ e]; exact s6 _ _ z
  have z6':=aj.kp k6 _ _ (gq _) (z5'.mono s6);have a56:=aj.kp k6 _ _ (g_ _) (a5'.mono s6);have WY:upd H6 y (.ins C dx (QK t lo dp dn)) dn=some (.dK (zK (ts.map (·.1)) ((ts.map (·.2.2)).map lD))):=by rw[aJ dny]; exact edn
  have Qa:upd H6 y (.ins C dx (QK t lo dp dn)) y=some (.ins C dx (QK t lo dp dn)):=aB
  have fH6:∀b,upd H6 y (.ins C dx (QK t lo dp dn)) b=none->K5 b=none:=fun b z=>by
   cases q':K5 b with
   | none=>rfl
   | some o=>
    by_cases e:b=y
    ·rw[e,Qa] at z; cases z
    ·rw[ho6 _ _ e q'] at z; cases z
  generalize upd H6 y (.ins C dx (QK t lo dp dn))=K6 at r6' k6 z6' a56 WY Qa fH6 ho6 ⊢;refine⟨y,C,dx,QK t lo dp dn,.ref lo,rfl,Qa,Z.cl,Z.n2,Qf ..,lo,l,(ts.map (·.1)).map Sum.inr,zs,rfl,by rw[vR]; exact ho6 _ _ MT Km,ho6 _ _ ly hl5,by simp; omega,by simp; omega,fun ds H7 fds s7 eds=>?_⟩
  have agd:H7 ds=some (.dK (zK (ts.map (·.1)) zs)):=eds.trans (m8 (fun q=>some (HO.dK q)) (Gk (ts.map fun x:_K.T3=>x.1) zs [] [] (by simpa using T3.nn) rfl (by simp; omega)))
  refine⟨y,C,dx,QK t lo dp dn,rfl,s7 _ _ Qa,Z.cl,Z.n5,(show 4<1000 by decide),?_⟩
  have dsy:ds≠y:=fun z=>by rw[z,Qa] at fds; cases fds
  obtain⟨r7',k7⟩:=stp (fs':=QJ t lo dp dn ds) (s7 _ _ Qa) (r6'.trans (s7.fr _));rw[pf5];have WX:∀b o,b≠y->K6 b=some o->upd H7 y (.ins C dx (QJ t lo dp dn ds)) b=some o:=fun b o e z=>by rw[aJ e]; exact s7 _ _ z
  have z7':=aj.kp k7 _ _ (gq _) (z6'.mono s7);have a57:=aj.kp k7 _ _ (g_ _) (a56.mono s7);have aat:upd H7 y (.ins C dx (QJ t lo dp dn ds)) ds=some (.dK (zK (ts.map (·.1)) zs)):=by rw[aJ dsy]; exact agd
  have TQ:upd H7 y (.ins C dx (QJ t lo dp dn ds)) y=some (.ins C dx (QJ t lo dp dn ds)):=aB
  have fH7:∀b,upd H7 y (.ins C dx (QJ t lo dp dn ds)) b=none->K6 b=none:=fun b z=>by
   cases q':K6 b with
   | none=>rfl
   | some o=>
    by_cases e:b=y
    ·rw[e,TQ] at z; cases z
    ·rw[WX _ _ e q'] at z; cases z
  generalize upd H7 y (.ins C dx (QJ t lo dp dn ds))=K7 at r7' k7 z7' a57 aat TQ fH7 WX ⊢;refine xf (ts.map (·.1)) ((ts.map fun _=>([0,0,0]:List Int)).map h_) (fun i=>[some (((ts.map (·.1)).map V.str).getD i .non)]) (fun _=>rfl) (a:=lo) (fun R hR=>by ext; exact⟨y,C,dx,QJ t lo dp dn ds,.ref lo,rfl,TQ,Z.cl,Z.n2,Qe ..,hR⟩) (WX _ _ MT (ho6 _ _ MT Km)) T3.nn (by simp) (by simp) (by simp; omega) (lr _) ?_ ?_
  ·intro i x nm d H' hx hn hd s';have ex:((ts.map (·.1)).map V.str).getD i .non=x:=by rw[iV,hx]; rfl
   rw[ex];rw[cM,hn] at hx;cases hx;have hi:i<ts.length:=by have:=(iY.mp hn).1; simpa using this
   have et:ts[i]?=some ts[i]:=dC hi;rw[cM,cM,et] at hd;cases hd;refine⟨fun R hR=>by ext; exact hR,fun R hR=>by ext; exact hR,fun R hR=>?_⟩
   ext;exact⟨⋯,fun p H5 f5 s5 e5=>hR _ _ s5 (At.tup e5 (aj.cons (At.int _) (aj.cons (At.int _) (aj.cons (At.int _) aj.nil))))⟩
  intro dt v8 H8 fdt s8 edt a8 l8;have gy8:=s8 _ _ TQ;refine⟨y,C,dx,QJ t lo dp dn ds,rfl,gy8,Z.cl,Z.n6,(show 5<1000 by decide),?_⟩
  have dty:dt≠y:=fun z=>by rw[z,TQ] at fdt; cases fdt
  obtain⟨r8',k8⟩:=stp (fs':=U4 t lo dp dn ds dt) gy8 (r7'.trans (s8.fr _));rw[pf6];have ho8:∀b o,b≠y->K7 b=some o->upd H8 y (.ins C dx (U4 t lo dp dn ds dt)) b=some o:=fun b o e z=>by rw[aJ e]; exact s8 _ _ z
  have z8':=aj.kp k8 _ _ (gq _) (z7'.mono s8);have a58:=aj.kp k8 _ _ (g_ _) (a57.mono s8);have a88:=aj.kp k8 _ _ (lr _) a8;have aas:upd H8 y (.ins C dx (U4 t lo dp dn ds dt)) dt=some (.dK (zK (ts.map (·.1)) v8)):=by rw[aJ dty]; exact edt
  have W0:upd H8 y (.ins C dx (U4 t lo dp dn ds dt)) y=some (.ins C dx (U4 t lo dp dn ds dt)):=aB
  have fH8:∀b,upd H8 y (.ins C dx (U4 t lo dp dn ds dt)) b=none->K7 b=none:=fun b z=>by
   cases q':K7 b with
   | none=>rfl
   | some o=>
    by_cases e:b=y
    ·rw[e,W0] at z; cases z
    ·rw[ho8 _ _ e q'] at z; cases z
  generalize upd H8 y (.ins C dx (U4 t lo dp dn ds dt))=K8 at r8' k8 z8' a58 a88 aas W0 fH8 ho8 ⊢;refine⟨⋯,fun lp H9 Yp s9 elp=>?_⟩
  have gy9:=s9 _ _ W0;refine⟨y,C,dx,U4 t lo dp dn ds dt,rfl,gy9,Z.cl,Z.n7,(show 6<1000 by decide),?_⟩
  have lpy:lp≠y:=fun z=>by rw[z,W0] at Yp; cases Yp
  obtain⟨r9',k9⟩:=stp (fs':=fl7 t lo dp dn ds dt lp) gy9 (r8'.trans (s9.fr _));rw[pf7];have ho9:∀b o,b≠y->K8 b=some o->upd H9 y (.ins C dx (fl7 t lo dp dn ds dt lp)) b=some o:=fun b o e z=>by rw[aJ e]; exact s9 _ _ z
  have afS:upd H9 y (.ins C dx (fl7 t lo dp dn ds dt lp)) lp=some (.lst []):=by rw[aJ lpy]; exact elp
  have lo8:=ho8 _ _ MT (WX _ _ MT (ho6 _ _ MT Km));have dp8:=ho8 _ _ W_ (WX _ _ W_ (ho6 _ _ W_ Tw));have dn8:=ho8 _ _ dny (WX _ _ dny WY);have ds8:=ho8 _ _ dsy aat;refine q ⟨y,lo,dp,dn,ds,dt,lp,[]⟩ _ rfl ⟨⟨dx,aB⟩,ho9 _ _ MT lo8,⟨v5,ho9 _ _ W_ dp8,aj.kp k9 _ _ (g_ _) (a58.mono s9)⟩,ho9 _ _ dny dn8,⟨zs,ho9 _ _ dsy ds8,aj.kp k9 _ _ (gq _) (z8'.mono s9)⟩,⟨v8,ho9 _ _ dty aas,aj.kp k9 _ _ (lr _) (a88.mono s9)⟩,afS,trivial,?_⟩ rfl ?_ r9'
  ·have ne:∀{G:Hp}{u v:Addr}{o:HO},G u=some o->G v=none->u≠v:=fun e1 e2 z=>by rw[z,e2] at e1; cases e1
   show[y,lo,dp,dn,ds,dt,lp].Nodup;have lo7:=WX _ _ MT (ho6 _ _ MT Km);have dp7:=WX _ _ W_ (ho6 _ _ W_ Tw);have dn7:=WX _ _ dny WY;simp only[jY,bN,e_,not_or,or_false,not_false_eq_true,List.nodup_nil,and_true];exact⟨⟨MT.symm,W_.symm,dny.symm,dsy.symm,dty.symm,lpy.symm⟩,⟨ne aar fdp,ne Km fdn,ne (ho6 _ _ MT Km) fds,ne lo7 fdt,ne lo8 Yp⟩,⟨ne Tw fdn,ne (ho6 _ _ W_ Tw) fds,ne dp7 fdt,ne dp8 Yp⟩,⟨ne WY fds,ne dn7 fdt,ne dn8 Yp⟩,⟨ne aat fdt,ne ds8 Yp⟩,ne aas Yp⟩
  ·intro b hb
   replace hb:b∈[y,lo,dp,dn,ds,dt,lp]:=hb
   simp only[bN,e_,or_false] at hb;rcases hb with rfl | rfl | rfl | rfl | rfl | rfl | rfl
   ·exact .inl rfl
   ·exact .inr af2
   ·exact .inr (fH4 _ fdp)
   ·exact .inr (fH4 _ (fH5 _ fdn))
   ·exact .inr (fH4 _ (fH5 _ (fH6 _ fds)))
   ·exact .inr (fH4 _ (fH5 _ (fH6 _ (fH7 _ fdt))))
   ·exact .inr (fH4 _ (fH5 _ (fH6 _ (fH7 _ (fH8 _ Yp)))))
 ·intro N hN;ext;rcases hsv with⟨rfl,rfl⟩ | ⟨l,zs,rfl,hl,az⟩
  ·refine⟨trivial,?_⟩;rw[aX ⋯]
   have TB:=TA.mono s1.kp;refine qu ((ts.map fun x=>gM x.2.1).map n_) (uD ts mV) (jN ts mV) (fun R hR=>by ext; exact hR) (s1 _ _ hp) (by simp; omega) ∅ (gq _) ?_ ?_
   ·intro i x d H' hx hd s';have TC:=TB.mono s'.kp;refine⟨fun R hR=>yG TC hx hR,fun R hR=>?_⟩;have hi:i<ts.length:=by rw[<- hlen]; exact(iY.mp hx).1
    have et:ts[i]?=some ts[i]:=dC hi;obtain⟨vp,ev,av⟩:=TC.ap.nth (d:=dh ts[i].2.1) (by rw[cM,cM,et]; rfl)
    rw[cM,cM,et] at hd;cases hd;rw[jC et];ext;rw[iV,ev];exact⟨vp,_,rfl,av,fun u bO s'' au=>hR _ _ s'' au⟩
   ·intro l zs H2 f2 s2 e2 a2;exact hN _ _ ⟨l,zs,rfl,e2,a2,s1.trans s2⟩
  ·refine⟨trivial,?_⟩;rw[aQ (by simp)]
   exact hN _ _ ⟨l,zs,rfl,s1 _ _ hl,az.mono s1,s1⟩
theorem agH{x:Option V}{σ:St}:bR [0] (x::σ)=[x]:=rfl
theorem IW{H:Hp}:∀{bs:List Bool}{us:List V},aj H (bs.map .bool) us->us=bs.map V.bl
 | [],_,h=>aj.iu h
 | b::bs,us,h=>by
  obtain⟨x,r,rfl,h1,h2⟩:=aj.aR h;have e:x=.bl b:=by unfold At at h1; exact h1
  rw[e,IW h2]; rfl
def xK(C:Addr):Sp:=fun vs H Q _=>∃(a:Ya)(y:Yd)(l:Addr)(ns:List Str),vs=[.ref a.p,.ref l]/\bK C H a y/\H l=some (.lst (ns.map V.str))/\ns.Nodup/\ns.length<=1000/\(∀n∈ns,n∈y.ns)/\∀H',aL H H'->Q .non H'
theorem jm:bf AU AU (aK gJ):=(by walk_at "c")
theorem pL{C:Addr}(F:iT K "check_names" "Yard.check_names" gJ f fd)(B:Bi mg)(Z:ZY K C):bI P w K mg base gQ (k+1) f fd AU (xK C):=by
 refine F.ok jm (hbody:=(0:))
 obtain⟨a,y,l,ns,rfl,YA,hl,nn,ahQ,nin,q⟩:=h;have ND:=jm.nd;refine⟨_,(aH (b_ (PW.pt (yC (bc qI (pb Dq B.len fQ (ao (pt (Dp rfl) B.set Uq (ao (pv 1) ak)) ak)) (pb (cX (K:=K) rfl) B.len fQ (ao (pv 1) ak)) (bj _)) (rD (jc (dX (pb (mQ rfl) B.all zU (ao (dR (N':=["name","self"]) (js:=[0]) rfl (bM (K:=K) rfl (pv 1)) sr.mk1 rfl ⋯ rfl (fun fp s' H'=>(eG (Z0 (K:=K) rfl) (pv 0) (cD (K:=K) rfl (pv 1)) (by with_unfolding_all rfl)))) ak))))))) (aH Cu) bD)),?_⟩
 ext;refine⟨l,ns,rfl,hl,∅,fun pz H2 f2 s2 e2=>⟨pz,_,rfl,e2,?_,l,_,rfl,.inl (cG.of (s2 _ _ hl)),?_⟩⟩
 ·have:=(qm ns).1;omega
 have hdc:=qm ns;refine⟨_,_,rfl,rfl,?_⟩
 rw[aQ (by
  intro z;have z':=rC z;rw[bW] at z'
  exact hdc.2.mp ∅ nn)]
 refine lF ((ns.map fun _=>true).map .bool) (fun R hR=>by ext; exact hR) (s2 _ _ hl) (by simp) (by simp; omega) (bC.mpr fun d hd=>by obtain⟨z,_,rfl⟩:=cV.mp hd; rfl) (fun i x d H' hx hd s' R hR=>?_) fun ab ub H3 f3 s3 e3 a3=>?_
 ·rw[cM] at hx;rw[cM,cM] at hd;cases et:ns[i]? with
  | none=>rw[et] at hx; cases hx
  | some n=>
   rw[et] at hx hd;cases hx;cases hd;rw[agH];ext;refine Fl.order (Q:=fun v H=>rIn K false (.str n) v H R) Z (YA.mono (s2.trans s')) ?_;refine⟨a.lo,_,rfl,.inl (cG.of (YA.mono (s2.trans s')).lo),rfl,Dh _,?_⟩;rw[aQ ⋯,Nq,jF (nin n (dz et))]
   exact hR _ _ (aL.refl _) (At.bool _)
 ·have eb:ub=(ns.map fun _=>true).map V.bl:=IW a3;subst eb;refine⟨ab,_,rfl,e3,?_⟩;rw[aQ (by simp)]
  exact q _ (s2.trans s3)
def Ze(C:Addr):Sp:=fun vs H Q _=>∃(a:Ya)(y:Yd),vs=[.ref a.p]/\bK C H a y/\fB y/\∀H',aL H H'->Q (.int (hands y.ss)) H'
theorem oX:bf AV AV (aK lU):=(by walk_at "c")
theorem yP{C:Addr}(F:iT K "hands" "Yard.hands" lU f fd)(B:Bi mg)(Z:ZY K C)(d_:Ct P w K mg base k "hands_of" ["stand"] wW):bI P w K mg base gQ (k+1) f fd AV (Ze C):=by
 refine F.ok oX (hbody:=(0:))
 obtain⟨a,y,rfl,YA,YO,q⟩:=h;have ND:=oX.nd;refine⟨_,(aH (bw (pb (dB rfl) B.sum jg (ao (Wc (dR (N':=["stand"]) (js:=[]) rfl (V_ (K:=K) rfl (cD (K:=K) rfl (pv 0))) sr.Wy rfl ⋯ rfl (fun fp s' H'=>(pf d_ hr (ao (pv 0) ak))))) ak)))),?_⟩
 obtain⟨vs,ed,av⟩:=YA.ds;have lv:=av.length;rw[bW] at lv;have l1:=YO.ls;have l5:=YO.n5;have lz:(zK y.ns vs).length=y.ns.length:=Jl ∅
 ext;refine Xb (y.ss.map hnd) (fun R hR=>by ext; exact Fl.stands Z YA hR) ed (by rw[bW,lz]; omega) ∅ (fun i kk x m H' hx hm kp R hR=>?_) fun acc H' f' s' e'=>?_
 ·unfold zK at hx;rw[List.getElem?_zip_eq_some] at hx;obtain⟨d',hd',ad⟩:=av.get hx.2;rw[cM] at hd' hm;cases ex:y.ss[i]? with
  | none=>rw[ex] at hd'; cases hd'
  | some x'=>
   rw[ex] at hd' hm;cases hm;cases hd';obtain⟨a0,xs0,rfl,h1,h2⟩:=bB (At.kp kp _ _ (jD _) ad);obtain⟨x0,_,rfl,b0,h2⟩:=aj.aR h2;obtain⟨x1,_,rfl,b1,h2⟩:=aj.aR h2;obtain⟨x2,_,rfl,b2,h2⟩:=aj.aR h2;obtain⟨c0,cs0,rfl,g1,g2⟩:=bB b2;have:=cz (cs:=x'.cs) g2;subst this;have e1:x1=.int x'.r:=by unfold At at b1; exact b1
   subst e1;ext;exact⟨_,_,_,_,_,_,_,rfl,rfl,h1,g1,hR _ (aL.refl _)⟩
 ·refine⟨acc,_,rfl,.inl e',?_⟩;exact q _ s'
def vG(C:Addr)(g:Yd->List PyData):Sp:=fun vs H Q _=>∃(a:Ya)(y:Yd)(i:Nat)(n:Str)(d:PyData),vs=[.ref a.p,.str n]/\bK C H a y/\fB y/\y.ns[i]?=some n/\(g y)[i]?=some d/\∀v H',aL H H'->At H' d v->Q v H'
def gS(y:Yd):List PyData:=y.ss.map n_
def gP(y:Yd):List PyData:=y.ps.map dh
def gO(y:Yd):List PyData:=y.os.map Jf
def gT(y:Yd):List PyData:=y.ts.map h_
theorem oV:bf AW AW (aK lQ):=(by walk_at "c")
theorem yN{C:Addr}(F:iT K "stand" "Yard.stand" lQ f fd)(Z:ZY K C)(aY:zY P w K mg base k C "check_names" AU (xK C)):bI P w K mg base gQ (k+1) f fd AW (vG C gS):=by
 refine F.ok oV (hbody:=(0:))
 obtain⟨a,y,i,n,d,rfl,YA,YO,hn,hd,q⟩:=h;have ND:=oV.nd;refine⟨_,(aA (cQ (pm aY hr (pv 0) (ao (bF (ao (pv 1) ak)) ak))) (aH (bw (bu (qJ hr.units) (cD (K:=K) rfl (pv 0)) (pv 1))))),?_⟩;ext;refine Me.of (m:="check_names") (R:=fun p=>_) YA (fun _ _ _ _ _ _ _=>rfl) ?_;refine⟨⋯,fun p H1 f1 s1 e1=>?_⟩
 refine⟨a,y,p,[n],rfl,YA.mono s1,e1,by simp,by simp,by intro m hm; rw[iU.mp hm]; exact dz hn,fun H2 s2=>?_⟩
 have YB:=YA.mono (s1.trans s2);obtain⟨us,ed,av⟩:=YB.ds;obtain⟨v,ev,aw⟩:=av.nth hd;have lv:=av.length;have l1:=YO.ls;rw[bW] at lv;obtain⟨dx,ob⟩:=YB.ob;exact⟨_,_,_,_,_,rfl,ob,Z.cl,Z.n5,ql ..,_,v,rfl,jL.z ed YO.nn hn ∅ ev,q _ _ (s1.trans s2) aw⟩
theorem qG:bf AW AW (aK mZ):=(by walk_at "c")
theorem Al{C:Addr}(F:iT K "post" "Yard.post" mZ f fd)(Z:ZY K C)(aY:zY P w K mg base k C "check_names" AU (xK C)):bI P w K mg base gQ (k+1) f fd AW (vG C gP):=by
 refine F.ok qG (hbody:=(0:))
 obtain⟨a,y,i,n,d,rfl,YA,YO,hn,hd,q⟩:=h;have ND:=qG.nd;refine⟨_,(aA (cQ (pm aY hr (pv 0) (ao (bF (ao (pv 1) ak)) ak))) (aH (bw (bu (qJ hr.units) (cD (K:=K) rfl (pv 0)) (pv 1))))),?_⟩;ext;refine Me.of (m:="check_names") (R:=fun p=>_) YA (fun _ _ _ _ _ _ _=>rfl) ?_;refine⟨⋯,fun p H1 f1 s1 e1=>?_⟩
 refine⟨a,y,p,[n],rfl,YA.mono s1,e1,by simp,by simp,by intro m hm; rw[iU.mp hm]; exact dz hn,fun H2 s2=>?_⟩
 have YB:=YA.mono (s1.trans s2);obtain⟨us,ed,av⟩:=YB.dp;obtain⟨v,ev,aw⟩:=av.nth hd;have lv:=av.length;have l1:=YO.lp;rw[bW] at lv;obtain⟨dx,ob⟩:=YB.ob;exact⟨_,_,_,_,_,rfl,ob,Z.cl,Z.n3,t_ ..,_,v,rfl,jL.z ed YO.nn hn ∅ ev,q _ _ (s1.trans s2) aw⟩
theorem nP:bf AW AW (aK jT):=(by walk_at "c")
theorem wH{C:Addr}(F:iT K "onward" "Yard.onward" jT f fd)(Z:ZY K C)(aY:zY P w K mg base k C "check_names" AU (xK C)):bI P w K mg base gQ (k+1) f fd AW (vG C gO):=by
 refine F.ok nP (hbody:=(0:))
 obtain⟨a,y,i,n,d,rfl,YA,YO,hn,hd,q⟩:=h;have ND:=nP.nd;refine⟨_,(aA (cQ (pm aY hr (pv 0) (ao (bF (ao (pv 1) ak)) ak))) (aH (bw (bu (qJ hr.units) (cD (K:=K) rfl (pv 0)) (pv 1))))),?_⟩;ext;refine Me.of (m:="check_names") (R:=fun p=>_) YA (fun _ _ _ _ _ _ _=>rfl) ?_;refine⟨⋯,fun p H1 f1 s1 e1=>?_⟩
 refine⟨a,y,p,[n],rfl,YA.mono s1,e1,by simp,by simp,by intro m hm; rw[iU.mp hm]; exact dz hn,fun H2 s2=>?_⟩
 have YB:=YA.mono (s1.trans s2);have l1:=YO.lo
 replace hd:(y.os.map Jf)[i]?=some d:=hd
 rw[cM] at hd;cases eo:y.os[i]? with
 | none=>rw[eo] at hd; cases hd
 | some o=>
 rw[eo] at hd;cases hd;obtain⟨dx,ob⟩:=YB.ob;exact⟨_,_,_,_,_,rfl,ob,Z.cl,Z.n4,zx ..,_,lD o,rfl,jL.z YB.dn YO.nn hn (by rw[bW]; omega) (by rw[cM,eo]; rfl),q _ _ (s1.trans s2) (Sx _)⟩
def XM(C:Addr):Sp:=fun vs H Q _=>∃(a:Ya)(y:Yd),vs=[.ref a.p]/\bK C H a y/\fB y/\∀p H',H p=none->aL H H'->H' p=some (.lst (y.ns.map V.str))->Q (.ref p) H'
theorem oW:bf AV AV (aK lR):=(by walk_at "c")
theorem yO{C:Addr}(F:iT K "names" "Yard.names" lR f fd)(B:Bi mg)(Z:ZY K C):bI P w K mg base gQ (k+1) f fd AV (XM C):=by
 refine F.ok oW (hbody:=(0:))
 obtain⟨a,y,rfl,YA,YO,q⟩:=h;have ND:=oW.nd;refine⟨_,(aH (bw (pt (vm) B.list jK (ao (cD (K:=K) rfl (pv 0)) ak)))),?_⟩;ext;obtain⟨dx,ob⟩:=YA.ob;exact⟨_,_,_,_,_,rfl,ob,Z.cl,Z.n2,pW ..,_,_,rfl,YA.lo,fun l hl=>q _ _ hl (aP hl _) aB⟩
def XQ(C:Addr):Sp:=fun vs H Q _=>∃(a:Ya)(y:Yd),vs=[.ref a.p]/\bK C H a y/\fB y/\Q (.int (y.pa.length:Nat)) H
theorem oY:bf AV AV (aK lV):=(by walk_at "c")
theorem yQ{C:Addr}(F:iT K "beats" "Yard.beats" lV f fd)(B:Bi mg)(Z:ZY K C):bI P w K mg base gQ (k+1) f fd AV (XQ C):=by
 refine F.ok oY (hbody:=(0:))
 obtain⟨a,y,rfl,YA,YO,q⟩:=h;have ND:=oY.nd;refine⟨_,(aH (bw (pb (cX (K:=K) rfl) B.len fQ (ao (cD (K:=K) rfl (pv 0)) ak)))),?_⟩;ext;obtain⟨dx,ob⟩:=YA.ob;refine⟨_,_,_,_,_,rfl,ob,Z.cl,Z.n7,Nx ..,?_⟩;refine⟨_,_,rfl,.inl (cG.of YA.lp),?_⟩;rw[bW,YA.pa.length];exact q
theorem zm:∀(cs:List Int)(g:Int),(bA cs g).1.sum=cs.sum-g+(bA cs g).2
 | [],g=>by simp[bA]; omega
 | c::cs,g=>by
  have:=zm cs g;rw[bA,Af,Af,this];simp only;generalize (if(bA cs g).2<c then(bA cs g).2 else c)=z
  omega
theorem De:∀(cs:List Int)(g:Int),(∀c∈cs,0<=c)->0<=g->(∀c∈(bA cs g).1,0<=c)/\0<=(bA cs g).2/\((bA cs g).2=0\/(bA cs g).1.sum=0)
 | [],g,_,hg=>⟨by simp[bA],by simpa[bA] using hg,.inr (by simp[bA])⟩
 | c::cs,g,h,hg=>by
  obtain⟨h1,h2,h3⟩:=De cs g (fun y hy=>h y (jb _ hy)) hg;have hc:=h c iK;rw[bA];simp only;generalize hG:(bA cs g).2=G at *;refine⟨fun y hy=>?_,?_,?_⟩
  ·rcases bN.mp hy with z | z
   ·rw[z]; split <;> omega
   ·exact h1 y z
  ·split <;> omega
  ·rw[Af];split <;> omega
structure Wth(x:gm)(st n:jk)(ch:Int):Prop where
 w:n.w=st.w
 s:n.s=st.s
 u:n.us=st.us
 r:0<=n.r
 c:n.cs.length=5
 cn:∀y∈n.cs,0<=y
 sm:n.r+n.cs.sum=st.r+st.cs.sum+ch
 t:n.t=if ch=0 then st.t else if 0<ch then x.u else x.d
theorem xn{x:gm}{st:jk}{ch:Int}(ha:x.a<=4)(hr:0<=st.r)(hl:st.cs.length=5)(hc:∀y∈st.cs,0<=y)(hz:0<=st.r+st.cs.sum+ch):Wth x st (dM x st ch) ch:=by
 by_cases c1:ch=0
 ·subst c1;have e:dM x st 0=st:=rfl;rw[e];exact⟨rfl,rfl,rfl,hr,hl,hc,∅,rfl⟩
 ·by_cases c2:0<ch
  ·have e:dM x st ch={ st with cs:=st.cs.take x.a++[st.cs.getD x.a 0+ch]++st.cs.drop (x.a+1),t:=x.u }:=by unfold dM; rw[aQ c1,aX c2]
   rw[e];refine⟨rfl,rfl,rfl,hr,?_,?_,?_,?_⟩
   ·simp only[dg,k_,wz,fH,rm];omega
   ·intro y hy;rcases iJ.mp hy with z | z
    ·rcases iJ.mp z with z | z
     ·exact hc y (wB z)
     ·rw[iU.mp z];have hlt:x.a<st.cs.length:=by omega
      have:0<=st.cs.getD x.a 0:=by
       rw[iV,dC hlt];exact hc _ (tE hlt)
      omega
    ·exact hc y (Hb z)
   ·show st.r+(st.cs.take x.a++[st.cs.getD x.a 0+ch]++st.cs.drop (x.a+1)).sum=_;obtain⟨y0,y1,y2,y3,y4,ey⟩:=WL hl;rw[ey];have:x.a=0\/x.a=1\/x.a=2\/x.a=3\/x.a=4:=by omega
    rcases this with e | e | e | e | e <;> rw[e] <;> simp <;> omega
   ·show x.u=_;rw[aQ c1,aX c2]
  ·have e:dM x st ch={ st with r:=st.r-(bA st.cs (-ch)).2,cs:=(bA st.cs (-ch)).1,t:=x.d }:=by unfold dM; rw[aQ c1,aQ c2]
   rw[e];obtain⟨k1,k2,k3⟩:=De st.cs (-ch) hc ∅
   have k4:=zm st.cs (-ch);have k5:=xH _ k1;refine⟨rfl,rfl,rfl,?_,?_,k1,?_,?_⟩
   ·show 0<=st.r-(bA st.cs (-ch)).2;omega
   ·show(bA st.cs (-ch)).1.length=5;rw[nD]; exact hl
   ·show st.r-(bA st.cs (-ch)).2+(bA st.cs (-ch)).1.sum=_;omega
   ·show x.d=_;rw[aQ c1,aQ c2]
theorem jr{st:jk}(h:st.cs.length=5):cZ st+(st.cs.drop 1++[0]).sum=st.r+st.cs.sum:=by
 obtain⟨a,b,c,d,e,hc⟩:=WL h;unfold cZ;rw[hc];simp;omega
theorem GF{st:jk}(h:st.cs.length=5)(hr:0<=st.r)(hc:∀y∈st.cs,0<=y):0<=cZ st:=by
 obtain⟨a,b,c,d,e,ec⟩:=WL h;have:=hc a (by rw[ec]; exact iK)
 unfold cZ; rw[ec]; show 0<=st.r+a; omega
theorem H_{st:jk}(hc:∀y∈st.cs,0<=y):∀y∈st.cs.drop 1++[0],0<=y:=fun y hy=>by
 rcases iJ.mp hy with z | z
 ·exact hc y (Hb z)
 ·rw[iU.mp z]; exact Int.le_refl 0
structure NxN(x:gm)(st:jk)(c fr:Int):Prop where
 s:Jd (dM x (dZ x st c) (oE x st c fr))
 h:hnd (dM x (dZ x st c) (oE x st c fr))=hnd st+oE x st c fr
 l:oE x st c fr<=fr\/oE x st c fr<=0
theorem Z7{x:gm}{st:jk}{c fr:Int}(hx:uz x)(hs:Jd st)(hfr:0<=fr):NxN x st c fr:=by
 have hc5:=hs.c;have h0:=xH _ hs.cn;have h1:=hs.r;have hlo:=hx.lo;have hhi:=hx.hi
 have hwb:0<=mF x.gD x.lo x.hi (st.r+st.cs.sum) (du x st c):=by
  unfold mF;simp only
  repeat' split <;> try omega
 have hbd:0<=st.r+st.cs.sum+oE x st c fr/\(oE x st c fr<=fr\/oE x st c fr<=0):=by
  unfold oE;rw[jr hc5];split
  ·unfold xm;split <;> omega
  ·omega
 have hml:(st.cs.drop 1++[0]).length=5:=by simp[hc5]
 have hW:=xn (x:=x) (st:=dZ x st c) (ch:=oE x st c fr) hx.a (GF hc5 hs.r hs.cn) hml (H_ hs.cn) (by show 0<=cZ st+(st.cs.drop 1++[0]).sum+oE x st c fr; rw[jr hc5]; exact hbd.1)
 have hi:=Vi (ch:=oE x st c fr) hx.is (Ia (x:=x) (come:=c) hs.is);refine⟨⟨hW.r,hi.c,hW.cn,hi.u,hi.l⟩,?_,hbd.2⟩;have:=hW.sm;have e:(dZ x st c).r+(dZ x st c).cs.sum=st.r+st.cs.sum:=jr hc5;rw[e] at this;exact this
def x0:gm:=⟨1,0,0,0,0,1,0,0,[]⟩
def s0:jk:=⟨0,0,[],0,0,[]⟩
def jB(y:Yd):Int:=if 12<y.tot-hands y.ss then 12 else y.tot-hands y.ss
def z7(y:Yd)(i:Nat):gm:=y.ps.getD i x0
def z8(y:Yd)(i:Nat):jk:=y.ss.getD i s0
def ZX(y:Yd)(i:Nat)(c:Int):jk:=dM (z7 y i) (dZ (z7 y i) (z8 y i) c) (oE (z7 y i) (z8 y i) c (jB y))
def Sh(y:Yd)(i:Nat):List Int:=y.ts.getD i []
def z9(y:Yd)(i:Nat)(c:Int):Rw:=⟨y.ns.getD i "",c,eQ (z7 y i) (z8 y i) c,c-cO (z7 y i) (z8 y i) c,oE (z7 y i) (z8 y i) c (jB y)⟩
def Uv(t:List Int)(c d a:Int):List Int:=[t.getD 0 0+c,t.getD 1 0+d,t.getD 2 0+a]
def Wh(y:Yd)(i:Nat)(c:Int):Yd:={ y with ss:=y.ss.set i (ZX y i c),ts:=y.ts.set i (Uv (Sh y i) c (z9 y i c).d (z9 y i c).a) }
theorem P0{ss:List jk}{i:Nat}{s n:jk}(h:ss[i]?=some s):hands (ss.set i n)=hands ss-hnd s+hnd n:=by
 induction ss generalizing i with
 | nil=>simp at h
 | cons z zs ih=>
  cases i with
  | zero=>cases h; simp only[List.set_cons_zero,hands,iI,Af]; omega
  | succ i=>
   have:=ih (i:=i) h;simp only[List.set_cons_succ,hands,iI,Af] at this ⊢;omega
theorem Nv{y:Yd}(YO:fB y):0<=jB y:=by
 have:=YO.hs;unfold jB;split <;> omega
theorem ZW{y:Yd}{i:Nat}{c:Int}(YO:fB y)(hi:i<y.ns.length):fB (Wh y i c):=by
 have l1:=YO.lp;have l2:=YO.ls;have l3:=YO.lt;have es:y.ss[i]?=some y.ss[i]:=dC ∅
 have e1:z8 y i=y.ss[i]:=by unfold z8; rw[iV,es]; rfl
 have e2:z7 y i=y.ps[i]:=by unfold z7; rw[iV,dC (by omega:i<y.ps.length)]; rfl
 have N:=Z7 (x:=z7 y i) (st:=z8 y i) (c:=c) (by rw[e2]; exact YO.pg _ (tE _)) (by rw[e1]; exact YO.sg _ (tE _)) (Nv YO)
 refine { YO with ls:=by show(y.ss.set i _).length=_; rw[JN]; exact l2,lt:=by show(y.ts.set i _).length=_; rw[JN]; exact l3,sg:=?_,tg:=?_,hs:=?_ }
 ·intro s hs;rcases RT hs with h | h
  ·exact YO.sg s h
  ·rw[h]; exact N.s
 ·intro t ht;rcases RT ht with h | h
  ·exact YO.tg t h
  ·rw[h]; rfl
 ·show hands (y.ss.set i (ZX y i c))<=y.tot;rw[P0 es];have hN:hnd (ZX y i c)=hnd (z8 y i)+oE (z7 y i) (z8 y i) c (jB y):=N.h;rw[hN,e1];have h1:=N.l;rw[e1] at h1;have h2:=YO.hs;have h3:jB y<=y.tot-hands y.ss:=by unfold jB; split <;> omega
  omega
theorem aj.put{H:Hp}{d:PyData}{v:V}(a:At H d v):∀{ds:List PyData}{vs:List V}{i:Nat},aj H ds vs->aj H (ds.set i d) (vs.set i v)
 | [],vs,i,h=>by cases aj.iu h; exact aj.nil
 | e::ds,vs,i,h=>by
  obtain⟨x,r,rfl,h1,h2⟩:=aj.aR h;cases i with
  | zero=>exact aj.cons a h2
  | succ i=>exact aj.cons h1 (aj.put a h2)
def ab3(C:Addr):Sp:=fun vs H Q _=>∃(a:Ya)(y:Yd)(i:Nat)(n:Str)(c:Int),vs=[.ref a.p,.str n,.int c]/\bK C H a y/\fB y/\y.ns[i]?=some n/\∀v H',bK C H' a (Wh y i c)->Fr [a.ds,a.dt] H H'->At H' (Ov (z9 y i c)) v->Q v H'
theorem jO:bf ["self","name","come","free","stand","done","away","change","all_come","all_done","all_away"] ["self","name","come"] (aK iG):=(by walk_at "c")
theorem rJ{C:Addr}(F:iT K "post_beat" "Yard.post_beat" iG f fd)(B:Bi mg)(O:Co K mg)(Z:ZY K C)(fM:zY P w K mg base k C "hands" AV (Ze C))(nF:Vb P w K mg base k "beat_beats" AJ 12 Rx):bI P w K mg base gQ (k+1) f fd ["self","name","come"] (ab3 C):=by
 refine F.ok jO (hbody:=(0:))
 obtain⟨a,y,i,n,c,rfl,YA,YO,hn,q⟩:=h;have ND:=jO.nd;refine⟨_,(aA (aW (i:=3) (pb (cW rfl) B.min iR (ao (aO dY (cD (K:=K) rfl (pv 0)) (pm0 fM hr (pv 0))) (ao (El O.Lg) ak)))) (aA (cI (pfa nF hr (ao (bu (qJ hr.units) (cD (K:=K) rfl (pv 0)) (pv 1)) (ao (bu (qJ hr.units) (cD (K:=K) rfl (pv 0)) (pv 1)) (ao (pv 2) (ao (pv 3) ak))))) (bL (K:=K) (n:=4) rfl rfl (aF (aG (i:=4)) (aF (aG (i:=5)) (aF (aG (i:=6)) (aF (aG (i:=7)) bG)))))) (aA (cI (pv 4) (jw (cD (K:=K) rfl (pv 0)) (pv 1) (xN hr.units))) (aA (cI (bu (qJ hr.units) (cD (K:=K) rfl (pv 0)) (pv 1)) (bL (K:=K) (n:=3) rfl rfl (aF (aG (i:=8)) (aF (aG (i:=9)) (aF (aG (i:=10)) bG))))) (aA (cI (bx (ao (aO bz (pv 8) (pv 2)) (ao (aO bz (pv 9) (pv 5)) (ao (aO bz (pv 10) (pv 6)) ak)))) (jw (cD (K:=K) rfl (pv 0)) (pv 1) (xN hr.units))) (aH (bw (bx (ao (pv 1) (ao (pv 2) (ao (pv 5) (ao (pv 6) (ao (pv 7) ak))))))))))))),?_⟩
 ext;obtain⟨dx,ob⟩:=YA.ob;refine⟨_,_,_,_,_,rfl,ob,Z.cl,Z.n1,Ih ..,?_⟩;refine Me.of (m:="hands") (R:=fun p=>_) YA (fun _ _ _ _ _ _ _=>rfl) ?_;refine⟨a,y,rfl,YA,YO,fun H1 s1=>?_⟩;have l1:=YO.lp;have l2:=YO.ls;have l3:=YO.lt;have l5:=YO.n5;have hi:i<y.ns.length:=(iY.mp hn).1;have YB:=YA.mono s1;have e1:y.ps[i]?=some (z7 y i):=by unfold z7; rw[iV,dC (by omega:i<y.ps.length)]; rfl
 have e2:y.ss[i]?=some (z8 y i):=by unfold z8; rw[iV,dC (by omega:i<y.ss.length)]; rfl
 have e3:y.ts[i]?=some (Sh y i):=by unfold Sh; rw[iV,dC (by omega:i<y.ts.length)]; rfl
 obtain⟨mV,edp,ap⟩:=YB.dp;obtain⟨vss,eds,as⟩:=YB.ds;obtain⟨vp,evp,avp⟩:=ap.nth (i:=i) (d:=dh (z7 y i)) (by rw[cM,e1]; rfl)
 obtain⟨vs',evs,avs⟩:=as.nth (i:=i) (d:=n_ (z8 y i)) (by rw[cM,e2]; rfl)
 have lp:=ap.length;have ls:=as.length;rw[bW] at lp ls;have ob1:=s1 _ _ ob;refine⟨_,_,rfl,rfl,?_⟩;refine⟨_,_,_,_,_,rfl,ob1,Z.cl,Z.n3,t_ ..,_,vp,rfl,jL.z edp YO.nn hn ∅ evp,_,_,_,_,_,rfl,ob1,Z.cl,Z.n5,ql ..,_,vs',rfl,jL.z eds YO.nn hn ∅ evs,?_⟩
 refine⟨vp,vs',z7 y i,z8 y i,c,jB y,rfl,avp,avs,(YO.pg _ (dz e1)).is,(YO.sg _ (dz e2)).is,fun p u' H2 s2 au e4=>?_⟩;refine⟨p,_,rfl,eX.of e4,rfl,?_⟩;ext;have ob2:=s2 _ _ ob1;have s12:=s1.trans s2;have nd:=YA.nd
 have nds:a.ds≠a.p/\a.dt≠a.p/\a.dt≠a.ds:=by
  unfold Ya.own at nd;have:=(tG.mp nd).1;simp only[jY,bN,e_,not_or,or_false] at this;exact⟨Ne.symm this.1.2.2.2.1,Ne.symm this.1.2.2.2.2.1,Ne.symm this.2.2.2.2.1.1⟩
 refine⟨_,_,_,_,_,rfl,ob2,Z.cl,Z.n5,ql ..,_,_,rfl,uw.z (s2 _ _ eds) YO.nn hn ∅ ∅,?_⟩
 obtain⟨vts,edt,at'⟩:=YA.dt;have ltt:=at'.length;rw[bW] at ltt;have k3:dH H2 (upd H2 a.ds (.dK (zK y.ns (vss.set i u')))):=dH.putD (s2 _ _ eds);have f3:Fr [a.ds] H2 (upd H2 a.ds (.dK (zK y.ns (vss.set i u')))):=Fr.put (by simp)
 have ade:upd H2 a.ds (.dK (zK y.ns (vss.set i u'))) a.ds=some (.dK (zK y.ns (vss.set i u'))):=aB;generalize upd H2 a.ds (.dK (zK y.ns (vss.set i u')))=H3 at k3 f3 ade ⊢;have ob3:=f3 _ _ ob2 (by simpa using Ne.symm nds.1)
 have aaC:=f3 _ _ (s12 _ _ edt) (by simpa using nds.2.2)
 have at3:=aj.kp (s12.kp.trans k3) _ _ (lr _) at';obtain⟨vt,evt,avt⟩:=at3.nth (i:=i) (d:=h_ (Sh y i)) (by rw[cM,e3]; rfl)
 obtain⟨t0,t1,t2,et⟩:∃t0 t1 t2,Sh y i=[t0,t1,t2]:=by
  have:=YO.tg _ (dz e3)
  match Sh y i,this with
  | [t0,t1,t2],_=>exact⟨t0,t1,t2,rfl⟩
 rw[et] at avt;obtain⟨b0,xs0,rfl,h1,h2⟩:=bB avt;have:=cz (cs:=[t0,t1,t2]) h2;subst this;refine⟨_,_,_,_,_,rfl,ob3,Z.cl,Z.n6,rO ..,_,_,rfl,jL.z aaC YO.nn hn ∅ evt,?_⟩
 refine⟨b0,_,rfl,eX.of h1,rfl,?_⟩;ext;refine⟨⋯,fun q4 H4 f4 s4 e5=>?_⟩
 have adb:=s4 _ _ aaC;refine⟨_,_,_,_,_,rfl,s4 _ _ ob3,Z.cl,Z.n6,rO ..,_,_,rfl,uw.z adb YO.nn hn ∅ ∅,⋯,fun p6 H6 f6 s6 e6=>?_⟩
 have k5:dH H4 (upd H4 a.dt (.dK (zK y.ns (vts.set i (.ref q4))))):=dH.putD adb;have f5:Fr [a.dt] H4 (upd H4 a.dt (.dK (zK y.ns (vts.set i (.ref q4))))):=Fr.put (by simp)
 have ada:upd H4 a.dt (.dK (zK y.ns (vts.set i (.ref q4)))) a.dt=some (.dK (zK y.ns (vts.set i (.ref q4)))):=aB;generalize upd H4 a.dt (.dK (zK y.ns (vts.set i (.ref q4))))=H5 at k5 f5 ada f6 s6;have fr:Fr [a.ds,a.dt] H H6:=(s12.fr _).trans ((f3.sub fun b hb=>.inl (by rw[iU.mp hb]; simp)).trans ((s4.fr _).trans ((f5.sub fun b hb=>.inl (by rw[iU.mp hb]; simp)).trans (s6.fr _))))
 have k26:dH H2 H6:=k3.trans (s4.kp.trans (k5.trans s6.kp));have kp:dH H H6:=s12.kp.trans k26;unfold Ya.own at nd;obtain⟨J9,nd2,nd3⟩:=tG.mp nd;simp only[jY,bN,e_,not_or,or_false] at J9;obtain⟨⟨n12,n13,n14,n15,n16,n17⟩,⟨n23,n24,n25,n26,n27⟩,⟨n34,n35,n36,n37⟩,⟨n45,n46,n47⟩,⟨n56,n57⟩,n67,_⟩:=J9;have off:∀{b:Addr}{o:HO},H b=some o->b≠a.ds->b≠a.dt->H6 b=some o:=fun {b o} e h1 h2=>fr b o e (by simp[h1,h2])
 have eqr:z9 y i c=⟨n,c,eQ (z7 y i) (z8 y i) c,c-cO (z7 y i) (z8 y i) c,oE (z7 y i) (z8 y i) c (jB y)⟩:=by
  unfold z9;rw[iV,hn]; rfl
 obtain⟨aeN,age,ap0⟩:=YA.dp;refine q _ H6 ⟨⟨dx,off ob n15 n16⟩,off YA.lo n25 n26,⟨aeN,off age n35 n36,aj.kp kp _ _ (g_ _) ap0⟩,off YA.dn n45 n46,⟨vss.set i u',?_,?_⟩,⟨vts.set i (.ref q4),s6 _ _ ada,?_⟩,off YA.lp (Ne.symm n57) (Ne.symm n67),?_,YA.nd⟩ fr ?_
 ·exact s6 _ _ (f5 _ _ (s4 _ _ ade) (by simpa using n56))
 ·show aj H6 ((y.ss.set i (ZX y i c)).map n_) _;rw[vU];exact aj.put (At.kp k26 _ _ (jD _) au) (aj.kp (s2.kp.trans k26) _ _ (gq _) as)
 ·show aj H6 ((y.ts.set i (Uv (Sh y i) c (z9 y i c).d (z9 y i c).a)).map h_) _;rw[vU,eqr,et];exact aj.put (At.tup (s6 _ _ (f5 _ _ e5 (by simpa using fun z=>by rw[z,aaC] at f4; cases f4))) (bU [t0+c,t1+eQ (z7 y i) (z8 y i) c,t2+(c-cO (z7 y i) (z8 y i) c)])) (aj.kp kp _ _ (lr _) at')
 ·exact YA.pa.keep kp fun b hb o e=>off e (fun z=>nd3 a.ds (by simp) b hb z.symm) (fun z=>nd3 a.dt (by simp) b hb z.symm)
 ·rw[eqr];exact At.tup e6 (aj.cons (At.str _) (aj.cons (At.int _) (aj.cons (At.int _) (aj.cons (At.int _) (aj.cons (At.int _) aj.nil)))))
def U7(q:Str×Int):PyData:=.tuple [.str q.1,.int q.2]
def oK(z:Yd×List Int×List Rw)(i:Nat):Yd×List Int×List Rw:=
 let c:=z.2.1.getD i 0
 (Wh z.1 i c,match z.1.os.getD i none with
  | none=>z.2.1
  | some o=>z.2.1.set (z.1.ns.idxOf o) (z.2.1.getD (z.1.ns.idxOf o) 0+(z9 z.1 i c).d),z.2.2++[z9 z.1 i c])
def eV(y:Yd)(cm:List Int):Nat->Yd×List Int×List Rw
 | 0=>(y,cm,[])
 | i+1=>oK (eV y cm i) i
def xj(ns:List Str)(cs:List (Str×Int)):List Int:=ns.map fun n=>(cs.lookup n).getD 0
def Jg(y:Yd)(cs:List (Str×Int)):List Rw:=(eV y (xj y.ns cs) y.ns.length).2.2
def La(y:Yd)(cs:List (Str×Int)):Yd:={ (eV y (xj y.ns cs) y.ns.length).1 with pa:=y.pa++[Jg y cs] }
theorem Ud{H:Hp}{q:Str×Int}{v:V}(h:At H (U7 q) v):∃b,v=.ref b/\H b=some (.tup [.str q.1,.int q.2]):=by
 obtain⟨b,xs,rfl,h1,h2⟩:=bB h;obtain⟨x0,_,rfl,b0,h2⟩:=aj.aR h2;obtain⟨x1,_,rfl,b1,h2⟩:=aj.aR h2;cases aj.iu h2;unfold At at b0 b1;subst b0 b1;exact⟨b,rfl,h1⟩
theorem xg(ns:List Str)(cs:List (Str×Int)):(xj ns cs).length=ns.length:=by unfold xj; rw[bW]
theorem Ui{ns:List Str}{l:List (Str×Int)}{q:Str×Int}{j:Nat}(nd:ns.Nodup)(hj:ns[j]?=some q.1)(hq:q.1∉l.map (·.1)):xj ns (l++[q])=(xj ns l).set j q.2:=by
 have hjl:j<ns.length:=(iY.mp hj).1
 have hn:l.lookup q.1=none:=RX.mpr fun p hp=>by
  simp only[bne_iff_ne,ne_eq];intro z;exact hq (by rw[z]; exact List.mem_map_of_mem hp)
 refine List.ext_getElem? fun k=>?_;rw[OD,xg];unfold xj;rw[cM,cM];by_cases e:j=k
 ·subst e;rw[aX rfl,aX hjl,hj];show some (((l++[q]).lookup q.1).getD 0)=_;rw[List.lookup_append,hn];obtain⟨q1,q2⟩:=q;simp[List.lookup]
 ·rw[aQ e];cases ek:ns[k]? with
  | none=>rfl
  | some n=>
   have ne:n≠q.1:=fun z=>e (by
    rw[z,<- hj] at ek
    exact((List.getElem?_inj hjl nd).mp ek.symm))
   show some (((l++[q]).lookup n).getD 0)=some ((l.lookup n).getD 0);rw[List.lookup_append]
   have:[q].lookup n=none:=RX.mpr fun p hp=>by
    rw[iU.mp hp];simpa using ne
   rw[this,Option.or_none]
structure RbI(y:Yd)(cm:List Int)(i:Nat):Prop where
 n:(eV y cm i).1.ns=y.ns
 p:(eV y cm i).1.ps=y.ps
 o:(eV y cm i).1.os=y.os
 t:(eV y cm i).1.tot=y.tot
 a:(eV y cm i).1.pa=y.pa
 l:(eV y cm i).2.1.length=cm.length
 r:(eV y cm i).2.2.length=i
theorem fZ(y:Yd)(cm:List Int):∀i,RbI y cm i
 | 0=>⟨rfl,rfl,rfl,rfl,rfl,rfl,rfl⟩
 | i+1=>by
  obtain⟨h1,h2,h3,h4,h5,h6,h7⟩:=fZ y cm i;refine⟨h1,h2,h3,h4,h5,?_,?_⟩
  ·show(oK (eV y cm i) i).2.1.length=_;unfold oK;dsimp only;split
   ·exact h6
   ·rw[JN]; exact h6
  ·show((eV y cm i).2.2++[_]).length=_;rw[dg,h7]; rfl
theorem sZ{y:Yd}{cm:List Int}(YO:fB y):∀{i:Nat},i<=y.ns.length->fB (eV y cm i).1
 | 0,_=>YO
 | i+1,h=>ZW (sZ YO (Mp h)) (by rw[(fZ y cm i).n]; omega)
theorem Jj{H:Hp}{ns:List Str}{vs:List V}(h:aj H (ns.map fun _=>PyData.int 0) vs):vs=(xj ns []).map V.int:=by
 have e:(ns.map fun _=>PyData.int 0)=(xj ns []).map .int:=by unfold xj; rw[vR]; rfl
 rw[e] at h;exact cz h
theorem ud(cs:List (Str×Int)):bH (cs.map U7)=true:=bC.mpr fun d hd=>by obtain⟨x,_,rfl⟩:=cV.mp hd; rfl
theorem W5{cs:List (Str×Int)}{i:Nat}{q:Str×Int}(nn:(cs.map (·.1)).Nodup)(h:cs[i]?=some q):q.1∉(cs.take i).map (·.1):=fun z=>by
 have hi:=(iY.mp h).1;have hq:=(iY.mp h).2;rw[<- List.take_append_drop i cs,ig,tG] at nn;refine nn.2.2 _ z q.1 ?_ rfl;rw[Hf hi,hq];exact iK ..
def Zf(C:Addr):Sp:=fun vs H Q _=>∃(a:Ya)(y:Yd)(l:Addr)(us:List V)(cs:List (Str×Int)),vs=[.ref a.p,.ref l]/\bK C H a y/\fB y/\H l=some (.lst us)/\aj H (cs.map U7) us/\(cs.map (·.1)).Nodup/\(∀q∈cs,q.1∈y.ns)/\y.pa.length<500/\l∉a.own /\
 ∀p m xs H',H m=none->H p=none->p≠m->bK C H' { a with zZ:=a.zZ++[m] } (La y cs)->H' p=some (.lst xs)->aj H' ((Jg y cs).map Ov) xs->Fr [a.ds,a.dt,a.lp] H H'->Q (.ref p) H'
theorem qH:bf ["self","comes","coming","name","come","rows","row","onward"] ["self","comes"] (aK m6):=(by walk_at "c")
theorem Am{C:Addr}(F:iT K "beat" "Yard.beat" m6 f fd)(B:Bi mg)(Z:ZY K C)(aY:zY P w K mg base k C "check_names" AU (xK C))(iQ:zY P w K mg base k C "post_beat" ["self","name","come"] (ab3 C)):bI P w K mg base gQ (k+1) f fd ["self","comes"] (Zf C):=by
 refine F.ok qH (hbody:=(0:))
 obtain⟨a,y,l,us,cs,rfl,YA,YO,hl,au,nn,nin,pn,lo',q⟩:=h;have ND:=qH.nd;refine⟨_,(aA (cQ (pm aY hr (pv 0) (ao (mK (nt:=2) (N':=["name","come"]) (js:=[]) rfl (bM (K:=K) rfl (pv 1)) oA.of (fun fp s' H'=>(bL (K:=K) (n:=2) rfl rfl (aF (aGN ["name","come"] 0) (aF (aGN ["name","come"] 1) bG)))) (fun fp s' H'=>jh) (fun fp s' H'=>(pv 0))) ak))) (aA (R3 (i:=2) ND rfl (by walk_at "o") (nt:=1) (N':=["name"]) (js:=[]) rfl (bM (K:=K) rfl (cD (K:=K) rfl (pv 0))) ux.of (fun fp s' H'=>(aGN ["name"] 0)) (fun fp s' H'=>(pv 0)) (fun fp s' H'=>aq)) (aA (gK PassesOwn.never rfl (bM (K:=K) rfl (pv 1)) (bL (K:=K) (n:=2) rfl rfl (aF (aG (i:=3)) (aF (aG (i:=4)) bG))) (aH (cI (pv 4) (jw (pv 2) (pv 3) (xN hr.units))))) (aA (aW (i:=5) (bF ak)) (aA (gK PassesOwn.never rfl (bM (K:=K) rfl (cD (K:=K) rfl (pv 0))) (aG (i:=3)) (aA (aW (i:=6) (pm iQ hr (pv 0) (ao (pv 3) (ao (bu (qJ hr.units) (pv 2) (pv 3)) ak)))) (aA (aW (i:=7) (bu (qJ hr.units) (cD (K:=K) rfl (pv 0)) (pv 3))) (aA (b_ (bc qj (pv 7) gf (bj _)) (aH (VR (Mq (Nat.add_le_add_left (by decide:1<=64) _) hr.units) (pv 2) (pv 7) (bu aZ (pv 6) aq) aao (by intros; rfl))) bD) (aH (cQ (ik (K:=K) rfl PySem.F.plainAttrs_list PySem.F.slot_list_append PySem.F.type_list_append eN (pv 5) (ao (pv 6) ak)))))))) (aA (cQ (ik (K:=K) rfl PySem.F.plainAttrs_list PySem.F.slot_list_append PySem.F.type_list_append eN (cD (K:=K) rfl (pv 0)) (ao (pv 5) ak))) (aH (bw (pt (vm) B.list jK (ao (pv 5) ak)))))))))),?_⟩
 ext;have lu:=au.length;rw[bW] at lu;have l5:=YO.n5
 have hcs:cs.length<=5:=by
  have:(cs.map (·.1)).length<=y.ns.length:=List.Nodup.length_le_of_subset nn fun z hz=>by
   obtain⟨q',hq',rfl⟩:=cV.mp hz;exact nin q' hq'
  rw[bW] at this;omega
 refine Me.of (m:="check_names") (R:=fun p=>_) YA (fun _ _ _ _ _ _ _=>rfl) ?_;refine qu ((cs.map (·.1)).map .str) (fun i=>[some (.str (cs.getD i ("",0)).1),some (.int (cs.getD i ("",0)).2)]) (fun _=>rfl) (fun R hR=>by ext; exact hR) hl (by simp; omega) ∅ (oJ _) ?_ ?_
 ·intro i x d H' hx hd s';have hi:i<cs.length:=by rw[<- lu]; exact(iY.mp hx).1
  have et:cs[i]?=some cs[i]:=dC hi;obtain⟨d',hd',ad⟩:=(au.mono s').get hx;rw[cM,et] at hd';cases hd';obtain⟨b,rfl,eb⟩:=Ud ad;rw[cM,cM,et] at hd;cases hd;rw[iV,et];refine⟨fun R hR=>⟨b,_,rfl,eX.of eb,rfl,?_⟩,fun R hR=>?_⟩
  ·exact hR
  ·ext;exact hR _ _ (aL.refl _) (At.str _)
 intro acc us1 H1 f1 s1 e1 a1;have:=mG a1;subst this;refine⟨a,y,acc,cs.map (·.1),rfl,YA.mono s1,e1,nn,by rw[bW]; omega,fun n hn=>by obtain⟨q',hq',rfl⟩:=cV.mp hn; exact nin q' hq',fun H2 s2=>?_⟩
 have s12:=s1.trans s2;have YB:=YA.mono s12;obtain⟨dx,ob⟩:=YA.ob;have ob2:=s12 _ _ ob;refine xf y.ns (y.ns.map fun _=>PyData.int 0) (fun i=>[some ((y.ns.map V.str).getD i .non)]) (fun _=>rfl) (a:=a.lo) (fun R hR=>by ext; exact⟨_,_,_,_,_,rfl,ob2,Z.cl,Z.n2,pW ..,hR⟩) YB.lo YO.nn (by simp) (by simp) (by simp; omega) (bC.mpr fun d hd=>by obtain⟨z,_,rfl⟩:=cV.mp hd; rfl) ?_ ?_
 ·intro i x nm d H' hx hn hd s';have ex:(y.ns.map V.str).getD i .non=x:=by rw[iV,hx]; rfl
  rw[ex];rw[cM,hn] at hx;cases hx;rw[cM,hn] at hd;cases hd;refine⟨fun R hR=>by ext; exact hR,fun R hR=>by ext; exact hR,fun R hR=>?_⟩
  ext;exact hR _ _ (aL.refl _) (At.int _)
 intro dc vz H3 Yq s3 Qg az lz;have:=Jj az;subst this;have pF:=s12.trans s3;rw[oH];ext
 have fd0:H dc=none:=by
  cases q':H dc with
  | none=>rfl
  | some o=>rw[s12 _ _ q'] at Yq; cases Yq
 have ldc:l≠dc:=fun z=>by rw[<- z,hl] at fd0; cases fd0
 refine LK.of (pF _ _ hl) (fun i σ H'=>∃o3 o4,σ=[some (.ref a.p),some (.ref l),some (.ref dc),o3,o4,none,none,none]/\H' dc=some (.dK (zK y.ns ((xj y.ns (cs.take i)).map V.int)))/\Fr [dc] H3 H') ⟨_,_,rfl,Qg,Fr.refl _ _⟩ (fun i σ H' _ ⟨_,_,_,_,fr⟩=>fr _ _ (pF _ _ hl) (by simpa using ldc)) ?_ ?_
 ·rintro i x σ H4 hx ⟨o3,o4,rfl,e4,fr4⟩;have hi:i<cs.length:=by rw[<- lu]; exact(iY.mp hx).1
  have et:cs[i]?=some cs[i]:=dC hi;have k4:dH H3 H4:=fr4.kp fun b hb xs z=>by rw[iU.mp hb,Qg] at z; cases z
  have au4:=aj.kp (pF.kp.trans k4) _ _ (ud _) au;obtain⟨d',hd',ad⟩:=au4.get hx;rw[cM,et] at hd';cases hd';obtain⟨b,rfl,eb⟩:=Ud ad;refine⟨b,_,rfl,eX.of eb,rfl,?_⟩;ext;obtain⟨j,hj⟩:=Aj (nin _ (dz et));refine⟨dc,_,rfl,uw.z e4 YO.nn hj (by rw[bW,xg]) ∅,_,_,rfl,?_,fr4.trans (Fr.put (by simp))⟩
  rw[aB,cY et,Ui YO.nn hj (W5 nn et),vU]
 rintro σ H4 ⟨o3,o4,rfl,e4,fr4⟩;rw[lu,pH] at e4;have lcm:(xj y.ns cs).length=y.ns.length:=xg ..;have eR:Jg y cs=(eV y (xj y.ns cs) y.ns.length).2.2:=rfl;have eY:La y cs={ (eV y (xj y.ns cs) y.ns.length).1 with pa:=y.pa++[Jg y cs] }:=rfl
 generalize xj y.ns cs=cm at e4 lcm eR eY;ext;refine⟨⋯,fun m H5 fm s5 em=>?_⟩
 have X7:aL H H4:=fun b o z=>fr4 _ _ (pF _ _ z) (by simp; intro e; rw[e,fd0] at z; cases z)
 have s05:=X7.trans s5
 have fm0:H m=none:=by
  cases q':H m with
  | none=>rfl
  | some o=>rw[X7 _ _ q'] at fm; cases fm
 have mdc:m≠dc:=fun z=>by rw[z,e4] at fm; cases fm
 have Y5:=YA.mono s05
 have HS:∀b∈a.own,b≠dc/\b≠m:=fun b hb=>by
  obtain⟨o,e,_⟩:=YA.al b hb;exact⟨fun z=>(by rw[z,fd0] at e; cases e),fun z=>(by rw[z,fm0] at e; cases e)⟩
 rw[oH];ext;obtain⟨dx5,ob5⟩:=Y5.ob;refine⟨_,_,_,_,_,rfl,ob5,Z.cl,Z.n2,pW ..,?_⟩;have nsl:(y.ns.map V.str).length=y.ns.length:=bW ..;refine LK.ofN Y5.lo (fun i σ H'=>∃o3 o4 o6 o7 xs,σ=[some (.ref a.p),some (.ref l),some (.ref dc),o3,o4,some (.ref m),o6,o7]/\bK C H' a (eV y cm i).1/\H' dc=some (.dK (zK y.ns ((eV y cm i).2.1.map V.int)))/\H' m=some (.lst xs)/\aj H' ((eV y cm i).2.2.map Ov) xs/\Fr [a.ds,a.dt,dc,m] H5 H') ⟨_,_,_,_,[],rfl,Y5,s5 _ _ e4,em,aj.nil,Fr.refl _ _⟩ (fun i σ H' _ ⟨_,_,_,_,_,_,Y',_⟩=>by have:=Y'.lo; rw[(fZ y cm i).n] at this; exact this) ?_ ?_
 ·rintro i x σ H6 hx ⟨o3,o4,o6,o7,xs,rfl,Y6,e6,em6,ax,fr6⟩ NN hM;rw[cM] at hx;cases hn:y.ns[i]? with
  | none=>rw[hn] at hx; cases hx
  | some n=>
  rw[hn] at hx;cases hx;have hi:i<y.ns.length:=(iY.mp hn).1;obtain⟨r1,r2,r3,r4,r5,r6,r7⟩:=fZ y cm i;have YO6:fB (eV y cm i).1:=sZ YO (jE hi);have ac8:eV y cm (i+1)=oK (eV y cm i) i:=rfl;rw[ac8] at hM;generalize eV y cm i=z at Y6 e6 ax YO6 r1 r2 r3 r4 r5 r6 r7 hM ⊢;obtain⟨zy,zc,zr⟩:=z;dsimp only at r1 r2 r3 r4 r5 r6 r7 Y6 e6 ax YO6;have ec:zc[i]?=some (zc.getD i 0):=by rw[iV,dC (by omega:i<zc.length)]; rfl
  ext;refine Me.of (m:="post_beat") (R:=fun p=>_) Y6 (fun _ _ _ _ _ _ _=>rfl) ?_;refine⟨dc,.int (zc.getD i 0),rfl,jL.z e6 YO.nn hn (by rw[bW]; omega) (by rw[cM,ec]; rfl),?_⟩
  refine⟨a,zy,i,n,zc.getD i 0,rfl,Y6,YO6,by rw[r1]; exact hn,fun v H7 Y7 Ym av=>?_⟩
  have U0:a.ds∈a.own/\a.dt∈a.own:=by unfold Ya.own; simp
  have dcO:dc∉[a.ds,a.dt]:=by simp; exact⟨Ne.symm (HS _ U0.1).1,Ne.symm (HS _ U0.2).1⟩
  have mO:m∉[a.ds,a.dt]:=by simp; exact⟨Ne.symm (HS _ U0.1).2,Ne.symm (HS _ U0.2).2⟩
  have e7:=Ym _ _ e6 dcO;have em7:=Ym _ _ em6 mO;have k67:dH H6 H7:=Y6.kp (Ym.sub fun b hb=>.inl (by simp at hb; rcases hb with rfl | rfl; exact U0.1; exact U0.2))
  have ax7:=aj.kp k67 _ _ (qg _) ax;have lxs:=ax.length;rw[bW,r7] at lxs;have l2:=YO.lo;have eo:y.os[i]?=some y.os[i]:=dC ∅
  have eo':zy.os.getD i none=y.os[i]:=by rw[r3,iV,eo]; rfl
  have dn7:H7 a.dn=some (.dK (zK y.ns (y.os.map lD))):=by
   have:=Y7.dn;rw[show(Wh zy i (zc.getD i 0)).ns=zy.ns from rfl,show(Wh zy i (zc.getD i 0)).os=zy.os from rfl,r1,r3] at this;exact this
  have helper:∀(H8:Hp) (cn:List Int),H8 dc=some (.dK (zK y.ns (cn.map V.int)))->Fr [dc] H7 H8->H8 m=some (.lst xs)/\(bK C (upd H8 m (.lst (xs++[v]))) a (Wh zy i (zc.getD i 0))/\upd H8 m (.lst (xs++[v])) dc=some (.dK (zK y.ns (cn.map V.int)))/\upd H8 m (.lst (xs++[v])) m=some (.lst (xs++[v]))/\aj (upd H8 m (.lst (xs++[v]))) ((zr++[z9 zy i (zc.getD i 0)]).map Ov) (xs++[v])/\Fr [a.ds,a.dt,dc,m] H5 (upd H8 m (.lst (xs++[v])))):=fun H8 cn e8 fr8=>by
   have Yr:=fr8 _ _ em7 (by simpa using mdc)
   have k8:dH H7 H8:=fr8.kp fun b hb xs z=>by rw[iU.mp hb,e7] at z; cases z
   have k9:dH H8 (upd H8 m (.lst (xs++[v]))):=dH.putL Yr;have k79:=k8.trans k9;refine⟨Yr,Y7.keep k79 (fun b hb o e=>by rw[aJ (HS b hb).2]; exact fr8 _ _ e (by simpa using(HS b hb).1)),by rw[aJ mdc.symm]; exact e8,aB,?_,?_⟩
   ·rw[ig];exact(aj.kp k79 _ _ (qg _) ax7).snoc (At.kp k79 _ _ (rw_noL _) av)
   ·exact fr6.trans ((Ym.sub fun b hb=>.inl (by simp at hb ⊢; rcases hb with h | h <;> simp[h])).trans ((fr8.sub fun b hb=>.inl (by rw[iU.mp hb]; simp)).trans (Fr.put (by simp))))
  have stp:oK (zy,zc,zr) i=(Wh zy i (zc.getD i 0),match y.os[i] with
   | none=>zc
   | some o=>zc.set (y.ns.idxOf o) (zc.getD (y.ns.idxOf o) 0+(z9 zy i (zc.getD i 0)).d),zr++[z9 zy i (zc.getD i 0)]):=by
   unfold oK;dsimp only;rw[eo',r1]
  rw[stp] at hM;obtain⟨dx7,ob7⟩:=Y7.ob;have dgo:=jL.z dn7 YO.nn hn (by rw[bW]; omega) (v:=lD y.os[i]) (by rw[cM,eo]; rfl)
  refine⟨_,_,_,_,_,rfl,ob7,Z.cl,Z.n4,zx ..,_,_,rfl,dgo,trivial,?_⟩;cases how:y.os[i] with
  | none=>
   rw[aQ (by simp[lD])]
   obtain⟨Yr,h8⟩:=helper H7 zc e7 (Fr.refl _ _);exact⟨.inl ⟨rfl,_,cG.of Yr⟩,m,xs,v,rfl,rfl,Yr,a_ ∅,hM _ _ ⟨_,_,_,_,_,rfl,by rw[how]; exact h8⟩⟩
  | some o=>
   rw[aX (by simp[lD])]
   have oin:o∈y.ns:=Hb (YO.og i o (by rw[eo,how]))
   have hj:y.ns.idxOf o<y.ns.length:=List.idxOf_lt_length_of_mem oin;have ej:y.ns[y.ns.idxOf o]?=some o:=by rw[dC hj,List.getElem_idxOf hj]
   have ecj:zc[y.ns.idxOf o]?=some (zc.getD (y.ns.idxOf o) 0):=by rw[iV,dC (by omega:y.ns.idxOf o<zc.length)]; rfl
   obtain⟨b,ys,rfl,hb1,hb2⟩:=bB av;obtain⟨x0,_,rfl,b0,hb2⟩:=aj.aR hb2;obtain⟨x1,_,rfl,b1,hb2⟩:=aj.aR hb2;obtain⟨x2,_,rfl,b2,hb2⟩:=aj.aR hb2;have ex2:x2=.int (z9 zy i (zc.getD i 0)).d:=by unfold At at b2; exact b2
   subst ex2;refine⟨dc,.int (zc.getD (y.ns.idxOf o) 0),rfl,jL.z e7 YO.nn ej (by rw[bW]; omega) (by rw[cM,ecj]; rfl),Ix.tup hb1 (aV (j:=2) rfl) ⟨_,_,rfl,rfl,_,uw.z e7 YO.nn ej (by rw[bW]; omega) ∅,?_⟩⟩
   obtain⟨Yr,h8⟩:=helper (upd H7 dc (.dK (zK y.ns ((zc.map V.int).set (y.ns.idxOf o) (.int (zc.getD (y.ns.idxOf o) 0+(z9 zy i (zc.getD i 0)).d)))))) (zc.set (y.ns.idxOf o) (zc.getD (y.ns.idxOf o) 0+(z9 zy i (zc.getD i 0)).d)) (by rw[aB,vU]) (Fr.put (by simp))
   exact⟨.inl ⟨rfl,_,cG.of Yr⟩,m,xs,_,rfl,rfl,Yr,a_ ∅,hM _ _ ⟨_,_,_,_,_,rfl,by rw[how]; exact h8⟩⟩
 ·rintro σ H6 ⟨o3,o4,o6,o7,xs,rfl,Y6,e6,em6,ax,fr6⟩;rw[nsl] at Y6 e6 ax;rw[<- eR] at ax;ext;have RI:=fZ y cm y.ns.length;have pl:=Y6.pa.length;rw[RI.a] at pl;obtain⟨dx6,ob6⟩:=Y6.ob;have lpO:a.lp∈a.own:=by unfold Ya.own; simp
  refine⟨_,_,_,_,_,rfl,ob6,Z.cl,Z.n7,Nx ..,.inl ⟨rfl,_,cG.of Y6.lp⟩,a.lp,_,_,rfl,rfl,Y6.lp,a_ (by rw[bW]; omega),?_⟩
  have lm:m≠a.lp:=Ne.symm (HS _ lpO).2;have k7:dH H6 (upd H6 a.lp (.lst (a.zZ.map V.ref++[.ref m]))):=dH.putL Y6.lp;have f7:Fr [a.lp] H6 (upd H6 a.lp (.lst (a.zZ.map V.ref++[.ref m]))):=Fr.put (by simp)
  have e7:upd H6 a.lp (.lst (a.zZ.map V.ref++[.ref m])) a.lp=some (.lst (a.zZ.map V.ref++[.ref m])):=aB;generalize upd H6 a.lp (.lst (a.zZ.map V.ref++[.ref m]))=H7 at k7 f7 e7 ⊢;have em7:=f7 _ _ em6 (by simpa using lm)
  refine⟨m,xs,rfl,em7,fun p fp=>?_⟩;have s8:=aP fp (HO.lst xs);have e8:upd H7 p (.lst xs) p=some (.lst xs):=aB;generalize upd H7 p (.lst xs)=H8 at s8 e8 ⊢;have k68:dH H6 H8:=k7.trans s8.kp
  have fr8:Fr [a.ds,a.dt,a.lp] H H8:=fun b o z nb=>by
   simp only[bN,e_,or_false,not_or] at nb;have h5:=s05 _ _ z
   have h6:=fr6 _ _ h5 (by
    simp only[bN,e_,or_false,not_or]
    exact⟨nb.1,nb.2.1,fun e=>(by rw[e,fd0] at z; cases z),fun e=>(by rw[e,fm0] at z; cases z)⟩)
   exact s8 _ _ (f7 _ _ h6 (by simpa using nb.2.2))
  have fp0:H p=none:=by
   cases q':H p with
   | none=>rfl
   | some o=>
    have hb:H5 p=some o:=s05 _ _ q';by_cases c1:p∈[a.ds,a.dt,a.lp]
    ·exfalso;simp only[bN,e_,or_false] at c1;rcases c1 with h | h | h
     ·obtain⟨o',e',_⟩:=Y6.al a.ds (by unfold Ya.own; simp)
      rw[h,f7 _ _ e' (by simp; intro z; have:=YA.nd; unfold Ya.own at this; have:=(tG.mp this).1; simp[z] at this)] at fp
      cases fp
     ·obtain⟨o',e',_⟩:=Y6.al a.dt (by unfold Ya.own; simp)
      rw[h,f7 _ _ e' (by simp; intro z; have:=YA.nd; unfold Ya.own at this; have:=(tG.mp this).1; simp[z] at this)] at fp
      cases fp
     ·rw[h,e7] at fp; cases fp
    ·exfalso;simp only[bN,e_,or_false,not_or] at c1
     have h6:=fr6 _ _ hb (by
      simp only[bN,e_,or_false,not_or]
      exact⟨c1.1,c1.2.1,fun e=>(by rw[e,fd0] at q'; cases q'),fun e=>(by rw[e,fm0] at q'; cases q')⟩)
     rw[f7 _ _ h6 (by simpa using c1.2.2)] at fp
     cases fp
  have pm:p≠m:=fun z=>by rw[z,em7] at fp; cases fp
  have ax8:=aj.kp k68 _ _ (qg _) ax;have nd:=YA.nd;unfold Ya.own at nd;obtain⟨J9,nd2,nd3⟩:=tG.mp nd;have ahU:∀b∈a.own,b≠a.lp->∀o,H6 b=some o->H8 b=some o:=fun b hb n o e=>s8 _ _ (f7 _ _ e (by simpa using n))
  have nlp:a.p≠a.lp/\a.lo≠a.lp/\a.dp≠a.lp/\a.dn≠a.lp/\a.ds≠a.lp/\a.dt≠a.lp:=by
   simp only[jY,bN,e_,not_or,or_false] at J9;exact⟨J9.1.2.2.2.2.2,J9.2.1.2.2.2.2,J9.2.2.1.2.2.2,J9.2.2.2.1.2.2,J9.2.2.2.2.1.2,J9.2.2.2.2.2.1⟩
  have kO:∀{b:Addr}{o:HO},H6 b=some o->b≠a.lp->H8 b=some o:=fun {b o} e n=>s8 _ _ (f7 _ _ e (by simpa using n))
  obtain⟨v3,c3,g3⟩:=Y6.dp;obtain⟨v5,c5,g5⟩:=Y6.ds;obtain⟨v6,c6,g6⟩:=Y6.dt;refine q p m xs H8 fm0 fp0 pm ?_ e8 ax8 fr8;rw[eY];refine⟨⟨dx6,kO ob6 nlp.1⟩,kO Y6.lo nlp.2.1,⟨v3,kO c3 nlp.2.2.1,aj.kp k68 _ _ (g_ _) g3⟩,kO Y6.dn nlp.2.2.2.1,⟨v5,kO c5 nlp.2.2.2.2.1,aj.kp k68 _ _ (gq _) g5⟩,⟨v6,kO c6 nlp.2.2.2.2.2,aj.kp k68 _ _ (lr _) g6⟩,?_,?_,?_⟩
  ·show H8 a.lp=some (.lst ((a.zZ++[m]).map V.ref));rw[ig];exact s8 _ _ e7
  ·show fV H8 (a.zZ++[m]) (y.pa++[Jg y cs]);have P6:=Y6.pa;rw[RI.a] at P6;exact fV.snoc (P6.keep k68 fun b hb o e=>kO e (fun z=>nd3 a.lp (by simp) b hb z.symm)) (s8 _ _ em7) ax8
  ·show([a.p,a.lo,a.dp,a.dn,a.ds,a.dt,a.lp]++(a.zZ++[m])).Nodup;rw[<- GX,tG];exact⟨nd,by simp,fun u hu v hv e=>by rw[iU.mp hv] at e; exact(HS u hu).2 e⟩
theorem nQ:bf AW AW (aK jU):=(by walk_at "c")
theorem wI{C:Addr}(F:iT K "counts" "Yard.counts" jU f fd)(Z:ZY K C)(aY:zY P w K mg base k C "check_names" AU (xK C)):bI P w K mg base gQ (k+1) f fd AW (vG C gT):=by
 refine F.ok nQ (hbody:=(0:))
 obtain⟨a,y,i,n,d,rfl,YA,YO,hn,hd,q⟩:=h;have ND:=nQ.nd;refine⟨_,(aA (cQ (pm aY hr (pv 0) (ao (bF (ao (pv 1) ak)) ak))) (aH (bw (bu (qJ hr.units) (cD (K:=K) rfl (pv 0)) (pv 1))))),?_⟩;ext;refine Me.of (m:="check_names") (R:=fun p=>_) YA (fun _ _ _ _ _ _ _=>rfl) ?_;refine⟨⋯,fun p H1 f1 s1 e1=>?_⟩
 refine⟨a,y,p,[n],rfl,YA.mono s1,e1,by simp,by simp,by intro m hm; rw[iU.mp hm]; exact dz hn,fun H2 s2=>?_⟩
 have YB:=YA.mono (s1.trans s2);obtain⟨us,ed,av⟩:=YB.dt;obtain⟨v,ev,aw⟩:=av.nth hd;have lv:=av.length;have l1:=YO.lt;rw[bW] at lv;obtain⟨dx,ob⟩:=YB.ob;exact⟨_,_,_,_,_,rfl,ob,Z.cl,Z.n6,rO ..,_,v,rfl,jL.z ed YO.nn hn ∅ ev,q _ _ (s1.trans s2) aw⟩
def XN(C CB:Addr):Sp:=fun vs H Q E=>∃(a:Ya)(y:Yd)(i:Nat)(n:Str)(v:V)(x:gm),vs=[.ref a.p,.str n,v]/\bK C H a y/\fB y/\y.ns[i]?=some n/\At H (dh x) v/\(((y.ps.set i x).map gm.lo).sum<=y.tot->∀H',bK C H' a { y with ps:=y.ps.set i x }->Fr [a.dp] H H'->Q .non H')/\(y.tot<((y.ps.set i x).map gm.lo).sum->∀H',aL H H'->E (.ref CB) none H')
theorem Cw:∀{ns:List Str}{ps:List gm}{i:Nat}{n:Str},ns.Nodup->ps.length=ns.length->ns[i]?=some n->((ns.zip ps).map fun z=>if z.1=n then none else some (dh z.2)).filterMap id=(ps.eraseIdx i).map dh
 | [],_,i,n,_,_,h=>by simp at h
 | m::ns,[],i,n,_,l,_=>by simp at l
 | m::ns,x::ps,i,n,nd,l,h=>by
  have Ws:=jY.mp nd
  have agN:∀(ns:List Str)(ps:List gm),ps.length=ns.length->n∉ns->((ns.zip ps).map fun z=>if z.1=n then none else some (dh z.2)).filterMap id=ps.map dh:=by
   intro ns
   induction ns with
   | nil=>intro ps l _; cases ps with
    | nil=>rfl
    | cons x ps=>simp at l
   | cons m ns ih=>
    intro ps l hm;cases ps with
    | nil=>simp at l
    | cons x ps=>
     simp only[bN,not_or] at hm;rw[List.zip_cons_cons,iI,aQ (Ne.symm hm.1),Ha];show dh x::_=_;rw[ih ps (by simpa using l) hm.2]
     rfl
  cases i with
  | zero=>
   cases h;rw[List.zip_cons_cons,iI,aX rfl,List.filterMap_cons_none rfl,agN ns ps (by simpa using l) Ws.1]
   rfl
  | succ i=>
   have hin:n∈ns:=dz (show ns[i]?=some n from h);rw[List.zip_cons_cons,iI,aQ (fun z=>Ws.1 (by rw[show m=n from z]; exact hin)),Ha]
   show dh x::_=_;rw[Cw Ws.2 (by simpa using l) (show ns[i]?=some n from h)]
   rfl
theorem CJ{α β:Type}(g:α->β):∀(l:List α)(i:Nat),(l.map g).eraseIdx i=(l.eraseIdx i).map g
 | [],_=>rfl
 | a::l,0=>rfl
 | a::l,i+1=>by simp only[iI,List.eraseIdx_cons_succ,CJ g l i]
theorem BW:∀{l:List Int}{i:Nat}{x:Int},i<l.length->(l.eraseIdx i).sum+x=(l.set i x).sum
 | [],i,x,h=>by simp at h
 | a::l,0,x,h=>by simp; omega
 | a::l,i+1,x,h=>by
  have:=BW (l:=l) (i:=i) (x:=x) (by simpa using h)
  simp only[List.eraseIdx_cons_succ,List.set_cons_succ,Af];omega
theorem Ya.nds{a:Ya}(nd:a.own.Nodup):(a.dp≠a.p/\a.dn≠a.p)/\(∀b∈a.own,b≠a.dp->b∉[a.dp]):=⟨by
  unfold Ya.own at nd;have:=(tG.mp nd).1;simp only[jY,bN,e_,not_or,or_false] at this
  exact⟨Ne.symm this.1.2.1,Ne.symm this.1.2.2.1⟩,fun b _ h=>by simpa using h⟩
theorem bK.afe{C:Addr}{H H':Hp}{a:Ya}{y:Yd}{xs:List gm}{vs:List V}(A:bK C H a y)(e:H' a.dp=some (.dK (zK y.ns vs)))(av:aj H' (xs.map dh) vs)(f:Fr [a.dp] H H')(m:dH H H'):bK C H' a { y with ps:=xs }:=by
 obtain⟨⟨dx,h1⟩,h2,⟨v3,h3,g3⟩,h4,⟨v5,h5,g5⟩,⟨v6,h6,g6⟩,h7,h8,h9⟩:=A;have nd:=h9;unfold Ya.own at nd;obtain⟨J9,nd2,nd3⟩:=tG.mp nd;simp only[jY,bN,e_,not_or,or_false] at J9;obtain⟨⟨n12,n13,n14,n15,n16,n17⟩,⟨n23,n24,n25,n26,n27⟩,⟨n34,n35,n36,n37⟩,⟨n45,n46,n47⟩,⟨n56,n57⟩,n67,_⟩:=J9;have kk:∀{b:Addr}{o:HO},H b=some o->b≠a.dp->H' b=some o:=fun {b o} z n=>f b o z (by simpa using n)
 exact⟨⟨dx,kk h1 n13⟩,kk h2 n23,⟨vs,e,av⟩,kk h4 (Ne.symm n34),⟨v5,kk h5 (Ne.symm n35),aj.kp m _ _ (gq _) g5⟩,⟨v6,kk h6 (Ne.symm n36),aj.kp m _ _ (lr _) g6⟩,kk h7 (Ne.symm n37),h8.keep m fun b hb o z=>kk z (Ne.symm (nd3 a.dp (by simp) b hb)),h9⟩
theorem Ox.of{H:Hp}{l b:Addr}{xs zs:List V}{Q:VK}(h1:H l=some (.lst xs))(h2:H b=some (.lst zs))(hn:xs.length+zs.length<=1000)(q:∀p H',H p=none->aL H H'->H' p=some (.lst (xs++zs))->Q (.ref p) H'):Ox (.ref l) (.ref b) H Q:=
 ⟨l,b,xs,zs,rfl,rfl,h1,h2,jE (a_ hn),fun p fp=>q p _ fp (aP fp _) aB⟩
theorem nR:bf ["self","name","post","others"] ["self","name","post"] (aK jV):=(by walk_at "c")
theorem wJ{C bQ:Addr}(F:iT K "change" "Yard.change" jV f fd)(B:Bi mg)(Z:ZY K C)(aY:zY P w K mg base k C "check_names" AU (xK C))(fK:Va P w K mg base k "check_least" AO (wV bQ)):bI P w K mg base (nZ P w) (k+1) f fd ["self","name","post"] (XN C bQ):=by
 refine F.okE nR (hbody:=fun cdv A outer s H vs Q E U3 hr h=>?_)
 obtain⟨a,y,i,n,v,x,rfl,YA,YO,hn,hv,q,qE⟩:=h;have ND:=nR.nd;refine⟨_,(aA (cQ (pm aY hr (pv 0) (ao (bF (ao (pv 1) ak)) ak))) (aA (j7 (i:=3) ND rfl (by walk_at "o") (nt:=1) (N':=["other","name","self"]) (js:=[1,0]) rfl (bM (K:=K) rfl (cD (K:=K) rfl (pv 0))) oA.of (fun fp s' H'=>(aGN ["other","name","self"] 0)) (fun fp s' H'=>Fd (bc Cy (pv 0) (pv 1) (bj _))) (fun fp s' H'=>(bu (qJ hr.units) (cD (K:=K) rfl (pv 2)) (pv 0)))) (aA (cQ (pfe fK hr (ao (cD (K:=K) rfl (pv 0)) (ao (aO Eo (pv 3) (bF (ao (pv 2) ak))) ak)))) (aH (cI (pv 2) (jw (cD (K:=K) rfl (pv 0)) (pv 1) (xN hr.units))))))),?_⟩
 ext;refine Me.of (m:="check_names") (R:=fun p=>_) YA (fun _ _ _ _ _ _ _=>rfl) ?_;refine⟨⋯,fun p H1 f1 s1 e1=>?_⟩
 refine⟨a,y,p,[n],rfl,YA.mono s1,e1,by simp,by simp,by intro m hm; rw[iU.mp hm]; exact dz hn,fun H2 s2=>?_⟩
 have s12:=s1.trans s2;have YB:=YA.mono s12;have l1:=YO.lp;have l5:=YO.n5;have hi:i<y.ns.length:=(iY.mp hn).1;obtain⟨dx,ob⟩:=YB.ob;obtain⟨us,ed,av⟩:=YB.dp;have lv:=av.length;rw[bW] at lv
 refine Xf ((y.ns.zip y.ps).map fun z=>if z.1=n then none else some (dh z.2)) (fun R hR=>by ext; exact⟨_,_,_,_,_,rfl,ob,Z.cl,Z.n2,pW ..,hR⟩) YB.lo (by rw[bW,bW,List.length_zip]; omega) (by rw[bW]; omega) (fun d hd=>by
  obtain⟨z,_,ez⟩:=cV.mp hd;split at ez
  ·cases ez
  ·cases ez; exact g8 _) ?_ ?_
 ·intro j x' o H' hx ho s';rw[cM] at hx;cases et:y.ns[j]? with
  | none=>rw[et] at hx; cases hx
  | some m=>
  rw[et] at hx;cases hx;have hj:j<y.ns.length:=(iY.mp et).1;have ep:y.ps[j]?=some y.ps[j]:=dC ∅
  have ez:(y.ns.zip y.ps)[j]?=some (m,y.ps[j]):=by rw[List.getElem?_zip_eq_some]; exact⟨et,ep⟩
  rw[cM,ez] at ho
  replace ho:=Option.some.inj ho
  dsimp only at ho;have ec:bR [1,0] [some (V.ref a.p),some (V.str n),some v,none]=[some (.str n),some (.ref a.p)]:=rfl;rw[ec];refine⟨fun R hR=>by ext; exact hR,fun R hR=>?_,fun d H4 e4 s4 R hR=>?_⟩
  ·ext;have:=hR H' (aL.refl _);rw[<- ho] at this;by_cases c:m=n
   ·rw[aX c] at this;simpa[c] using this
   ·rw[aQ c] at this;simpa[c] using this
  ·rw[e4] at ho;split at ho
   ·cases ho
   cases ho;ext;obtain⟨v',ev',av'⟩:=av.nth (i:=j) (d:=dh y.ps[j]) (by rw[cM,ep]; rfl)
   have s24:=s'.trans s4;exact⟨_,_,_,_,_,rfl,s24 _ _ ob,Z.cl,Z.n3,t_ ..,_,v',rfl,jL.z (s24 _ _ ed) YO.nn et ∅ ev',hR _ _ (aL.refl _) (av'.mono s24)⟩
 ·intro acc us3 H3 f3 s3 e3 a3;rw[Cw YO.nn l1 hn] at a3;have pF:=s12.trans s3;refine⟨_,_,_,_,_,rfl,s3 _ _ ob,Z.cl,Z.n1,Ih ..,⋯,fun p4 H4 f4 s4 e4=>?_⟩
  have la:=a3.length;rw[bW,List.length_eraseIdx] at la;refine Ox.of (s4 _ _ e3) e4 (by simp; split at la <;> omega) fun p5 H5 f5 s5 e5=>?_
  have JG:=pF.trans (s4.trans s5)
  have esum:((y.ps.eraseIdx i++[x]).map gm.lo).sum=((y.ps.set i x).map gm.lo).sum:=by
   rw[ig,List.sum_append];have:=BW (l:=y.ps.map gm.lo) (i:=i) (x:=x.lo) (by rw[bW]; omega)
   rw[<- vU,CJ] at this;rw[<- this];simp
  refine⟨y.tot,p5,_,y.ps.eraseIdx i++[x],rfl,e5,?_,?_,fun hs H6 s6=>?_,fun hs H6 s6 H7 s7=>qE (by rw[<- esum]; exact hs) H7 (JG.trans (s7 s6))⟩
  ·rw[ig];exact(a3.mono (s4.trans s5)).snoc (hv.mono JG)
  ·rw[dg,List.length_eraseIdx]; simp; split <;> omega
  ·have Mi:=JG.trans s6;have Vs:aL H2 H6:=s3.trans (s4.trans (s5.trans s6));refine⟨_,_,_,_,_,rfl,Vs _ _ ob,Z.cl,Z.n3,t_ ..,_,_,rfl,uw.z (Vs _ _ ed) YO.nn hn ∅ ∅,?_⟩
   have k7:dH H6 (upd H6 a.dp (.dK (zK y.ns (us.set i v)))):=dH.putD (Vs _ _ ed);have f7:Fr [a.dp] H6 (upd H6 a.dp (.dK (zK y.ns (us.set i v)))):=Fr.put (by simp)
   refine q (by rw[<- esum]; exact hs) _ (YA.afe (xs:=y.ps.set i x) (vs:=us.set i v) aB ?_ ((Mi.fr _).trans f7) (Mi.kp.trans k7)) ((Mi.fr _).trans f7)
   rw[vU];exact aj.put (At.kp (Mi.kp.trans k7) _ _ (g8 _) hv) (aj.kp (Vs.kp.trans k7) _ _ (g_ _) av)
theorem Js{H H':Hp}{a:Addr}{n:Nat}(t:Tp H a n)(s:SX a H H'):dH H H':=fun c xs z=>s.get (t.neT z) z
theorem sxF{a p:Addr}{H H':Hp}(s:SX a H H')(pa:p≠a)(h:H' p=none):H p=none:=by
 cases q:H p with
 | none=>rfl
 | some o=>rw[s.get pa q] at h; cases h
theorem Q_{zs:List (List Nat)}(h:zs.Nodup):(zs.map tx).Nodup:=by
 unfold List.Nodup;rw[List.pairwise_map];exact h.imp fun h e=>h (Y4 e)
def ab1:Sp:=fun vs H Q _=>∃(a:Addr)(n:Nat),vs=[.ref a]/\Tp H a n/\n<=10000000/\∀p q tot (ts:List T3) us H',H' p=some (.tup [.int tot,.ref q])->H q=none->q≠a->H' q=some (.lst us)->aj H' (ts.map Ju) us->QD tot ts->(∀x∈ts,uz x.2.1)->tot<=60->Tp H' a (n+3000)->SX a H H'->Q (.ref p) H'
theorem BX:bf ["_law_tape_here","_law_many","_law_names_here","_law_rows","_law_k","_law_post_here","_law_behind","_law_least","_law_more"] AM (aK x_):=(by walk_at "c")
theorem O9(F:iT K "_law_yard" "_law_yard" x_ f fd)(B:Bi mg)(aM:Ct P w K mg base k "_law_draw" AL gH)(uh:Ct P w K mg base k "_law_post" AM qQ)(km:Ct P w K mg base k "_law_small_post" AM qQ)(Qs:Ct P w K mg base k "_law_names" AL Zi):bI P w K mg base gQ (k+1) f fd AM ab1:=by
 refine F.ok BX (hbody:=(0:))
 obtain⟨a,n,rfl,tp,hn,q⟩:=h;have ND:=BX.nd;refine⟨_,(aA (aW (i:=1) (bu aZ (bF (ao aq (ao aq (ao aq (ao aq (ao aq (ao aq ak))))))) (pf aM hr (ao (pv 0) (ao aq ak))))) (aA (aW (i:=2) (pf Qs hr (ao (pv 0) (ao (pv 1) ak)))) (aA (aW (i:=3) (bF ak)) (aA (gK PassesOwn.never rfl (dJ (by rfl) B.range (ao (pv 1) ak)) (aG (i:=4)) (aA (aW (i:=5) (cg (bc fW (pf aM hr (ao (pv 0) (ao aq ak))) aq (bj _)) (pf uh hr (ao (pv 0) ak)) (pf km hr (ao (pv 0) ak)))) (aA (aW (i:=6) (aO Eo (bF (ao gf ak)) (aO ZZ (cR wX (pv 2) (dq (aO bz (pv 4) aq)) dN) aq))) (aH (cQ (ik (K:=K) rfl PySem.F.plainAttrs_list PySem.F.slot_list_append PySem.F.type_list_append eN (pv 3) (ao (bx (ao (bu aZ (pv 2) (pv 4)) (ao (pv 5) (ao (bu aZ (pv 6) (pf aM hr (ao (pv 0) (ao (pb (cX (K:=K) rfl) B.len fQ (ao (pv 6) ak)) ak)))) ak)))) ak))))))) (aA (aW (i:=7) (pb (dB rfl) B.sum jg (ao (mK (nt:=3) (N':=["_law_name","_law_post_here","_law_onward"]) (js:=[]) rfl (bM (K:=K) rfl (pv 3)) oA.of (fun fp s' H'=>(bL (K:=K) (n:=3) rfl rfl (aF (aGN AX 0) (aF (aGN AX 1) (aF (aGN AX 2) bG))))) (fun fp s' H'=>jh) (fun fp s' H'=>(bu aZ (bu aZ (pv 1) aq) aq))) ak))) (aA (aW (i:=8) (bu aZ (bF (ao aq (ao aq (ao (pf aM hr (ao (pv 0) (ao aq ak))) (ao (aO bz aq (pf aM hr (ao (pv 0) (ao aq ak)))) ak))))) (pf aM hr (ao (pv 0) (ao aq ak))))) (aH (bw (bx (ao (pb (cW rfl) B.min iR (ao aq (ao (aO bz (pv 7) (pv 8)) ak))) (ao (pv 3) ak))))))))))),?_⟩
 simp only[sO 5];ext;refine⟨⋯,fun p1 H1 f1 s1 e1=>?_⟩
 refine cF.of (tp.same s1) ∅ ⋯ ⋯ fun d H2 d0 d1 t2 x2=>?_
 have p1a:=tp.ne f1
 obtain⟨m,em,m1,m5⟩:∃m:Nat,zV [V.int 1,V.int 2,V.int 3,V.int 2,V.int 4,V.int 5] d=some (.int (m:Nat))/\1<=m/\m<=5:=by
  have:d=0\/d=1\/d=2\/d=3\/d=4\/d=5:=by omega
  rcases this with rfl | rfl | rfl | rfl | rfl | rfl
  ·exact⟨1,rfl,⋯,⋯⟩
  ·exact⟨2,rfl,⋯,⋯⟩
  ·exact⟨3,rfl,⋯,⋯⟩
  ·exact⟨2,rfl,⋯,⋯⟩
  ·exact⟨4,rfl,⋯,⋯⟩
  ·exact⟨5,rfl,⋯,⋯⟩
 refine Ix.lst (x2.get p1a e1) em ?_;refine Nm.of (m:=m) rfl ∅ t2 ∅ fun pn zs H3 fn na lz gz ndz en t3 x3=>⟨⋯,fun pr H4 f4 s4 e4=>?_⟩
 have x12:SX a H H2:=(SX.of s1).trans x2;have x14:SX a H H4:=x12.trans (x3.trans (SX.of s4));have ZF:=t3.ne f4;have f4':H pr=none:=sxF (x12.trans x3) ZF f4;have fn':H pn=none:=sxF x12 na fn;have prn:pr≠pn:=fun z=>by rw[z,en] at f4; cases f4
 rw[sE];ext;refine FK.of (n:=m) rfl ∅ (fun i σ H'=>∃(ts:List T3)(us:List V)(o4 o5 o6:Option V),σ=[some (V.ref a),some (V.int (m:Nat)),some (V.ref pn),some (V.ref pr),o4,o5,o6,none,none]/\ts.length=i/\us.length=i/\ts.map (·.1)=(zs.take i).map tx/\(∀x∈ts,uz x.2.1)/\(∀(j:Nat)(x:T3) z,ts[j]?=some x->x.2.2=some z->z∈(zs.map tx).drop (j+1))/\H' pn=some (.lst (zs.map fun z=>V.str (tx z)))/\H' pr=some (.lst us)/\aj H' (ts.map Ju) us/\Tp H' a (n+301+402*i)/\SX a H H')
  ⟨[],[],_,_,_,rfl,rfl,rfl,rfl,by simp,by simp,s4 _ _ en,e4,aj.nil,(t3.same s4).mono ∅,x14⟩ ?_ ?_
 ·rintro i σ H5 hi ⟨ts,us,o4,o5,o6,rfl,lt,lu,ets,hps,hog,en5,e5,a5,t5,x5⟩;ext;refine gR.of (R:=fun σ H'=>∃pv x,σ=[some (V.ref a),some (V.int (m:Nat)),some (V.ref pn),some (V.ref pr),some (.int (0+(i:Nat))),some pv,o6,none,none]/\uz x/\At H' (dh x) pv/\Tp H' a (n+301+402*i+401)/\SX a H5 H') ?_ ?_
  ·rintro σ H6 ⟨pv,x,rfl,hx,ax,t6,x6⟩;have en6:=x6.get na en5;have e6:=x6.get ZF e5;have a6:=aj.kp (Js t5 x6) _ _ (mX _) a5;have af_:H6 pn=some (.lst ((zs.map tx).map V.str)):=by rw[vR]; exact en6
   ext;refine⟨⋯,fun p7 H7 f7 s7 e7=>?_⟩
   refine⟨pn,_,rfl,cG.of (s7 _ _ af_),fun p8 f8=>?_⟩;rw[pX ∅,show(0+(i:Int)+1).toNat=i+1 by omega,<- List.map_drop]
   have s8:=aP f8 (HO.lst (((zs.map tx).drop (i+1)).map V.str));have ldr:((zs.map tx).drop (i+1)).length<=5:=by rw[wz,bW]; omega
   refine⟨p8,2,_,rfl,rfl,aB,⋯,⋯,?_,fun p9 f9=>?_⟩
   ·rw[bW];exact jE (a_ (by show _*2<=1000; omega))
   have efl:(List.replicate (2:Int).toNat (((zs.map tx).drop (i+1)).map V.str)).flatten=(((zs.map tx).drop (i+1)++(zs.map tx).drop (i+1)).map some).map lD:=by
    rw[vR,ig];show((zs.map tx).drop (i+1)).map V.str++(((zs.map tx).drop (i+1)).map V.str++[])=_;rw[q_]; rfl
   rw[efl];have s9:=aP f9 (HO.lst ((((zs.map tx).drop (i+1)++(zs.map tx).drop (i+1)).map some).map lD));have e9:upd (upd H7 p8 (.lst (((zs.map tx).drop (i+1)).map V.str))) p9 (.lst ((((zs.map tx).drop (i+1)++(zs.map tx).drop (i+1)).map some).map lD)) p9=some (.lst ((((zs.map tx).drop (i+1)++(zs.map tx).drop (i+1)).map some).map lD)):=aB;have s79:=s8.trans s9;generalize upd (upd H7 p8 (.lst (((zs.map tx).drop (i+1)).map V.str))) p9 (.lst ((((zs.map tx).drop (i+1)++(zs.map tx).drop (i+1)).map some).map lD))=H9 at s79 e9 ⊢
   obtain⟨os,eos,hos,los,l0⟩:∃os:List (Option Str),V.non::(((zs.map tx).drop (i+1)++(zs.map tx).drop (i+1)).map some).map lD=os.map lD/\(∀o∈os,∀z,o=some z->z∈(zs.map tx).drop (i+1))/\os.length<=20/\1<=os.length:=by
    refine⟨none::((zs.map tx).drop (i+1)++(zs.map tx).drop (i+1)).map some,rfl,?_,?_,by simp⟩
    ·intro o ho z hz;rcases bN.mp ho with h | h
     ·rw[h] at hz; cases hz
     ·obtain⟨z',hz',ez⟩:=cV.mp h;rw[<- ez] at hz;cases hz;rcases iJ.mp hz' with h | h <;> exact h
    ·simp only[fH,bW,dg]; omega
   refine Ox.of (s79 _ _ e7) e9 (by simp only[fH,rm,bW,dg]; omega) fun pb HA fb sA eA=>?_
   rw[show[V.non]++(((zs.map tx).drop (i+1)++(zs.map tx).drop (i+1)).map some).map lD=os.map lD from eos] at eA;have s6A:=s7.trans (s79.trans sA);have enA:=s6A _ _ en6;have eA':=s6A _ _ e6;refine⟨.inl ⟨rfl,_,cG.of eA'⟩,?_⟩;have hiz:i<zs.length:=by omega
   refine Ix.lst (v:=V.str (tx zs[i])) enA (by rw[yw]; exact aV (j:=i) (by rw[cM,dC hiz]; rfl)) ?_
   refine⟨pb,_,rfl,.inl (cG.of eA),?_⟩;have tA:=t6.same s6A;refine cF.of tA ∅ (by rw[bW]; omega) (by rw[bW]; omega) fun d8 HB d80 d81 tB xB=>?_
   rw[bW] at d81;have pba:pb≠a:=(t6.same (s7.trans s79)).ne fb;have hd8:d8.toNat<os.length:=by omega
   refine Ix.lst (v:=lD os[d8.toNat]) (xB.get pba eA) (by
    have:=aV (xs:=os.map lD) (j:=d8.toNat) (v:=lD os[d8.toNat]) (by rw[cM,dC hd8]; rfl)
    rwa [Int.toNat_of_nonneg d80] at this) ⟨⋯,fun pc HC fc sC eC=>?_⟩
   have eB':=xB.get ZF eA';have eC':=sC _ _ eB';have pca:pc≠a:=tB.ne fc;have kD:dH HC (upd HC pr (.lst (us++[.ref pc]))):=dH.putL eC';have k6D:=s6A.kp.trans ((Js tA xB).trans (sC.kp.trans kD))
   have eD:upd HC pr (.lst (us++[.ref pc])) pc=some (.tup [V.str (tx zs[i]),pv,lD os[d8.toNat]]):=by
    rw[aJ (fun z=>by rw[z,eC'] at eC; cases eC)]; exact eC
   have x6C:SX a H6 HC:=(SX.of s6A).trans (xB.trans (SX.of sC));have a7:=aj.snoc (aj.kp k6D _ _ (mX _) a6) (show At _ (Ju (tx zs[i],x,os[d8.toNat])) (.ref pc) from At.tup eD (aj.cons (At.str _) (aj.cons (At.kp k6D _ _ (g8 _) ax) (aj.cons (Sx _) aj.nil))));refine⟨pr,us,_,rfl,rfl,eC',by rw[lu]; exact a_ ∅,ts++[(tx zs[i],x,os[d8.toNat])],us++[.ref pc],_,_,_,rfl,by rw[dg,lt]; rfl,by rw[dg,lu]; rfl,?_,?_,?_,?_,aB,?_,?_,?_⟩
   ·rw[ig,ets,cY (dC hiz),ig]; rfl
   ·intro x' hx';rcases iJ.mp hx' with h | h
    ·exact hps x' h
    ·rw[iU.mp h]; exact hx
   ·intro j x' z h1 h2;by_cases hj:j<ts.length
    ·rw[JR hj] at h1;exact hog j x' z h1 h2
    ·rw[Ef ∅] at h1
     have hj':j-ts.length=0:=by
      cases c:j-ts.length with
      | zero=>rfl
      | succ c'=>rw[c] at h1; simp at h1
     rw[hj'] at h1;cases h1;have:j=i:=by omega
     subst this;exact hos _ (tE hd8) z h2
   ·rw[aJ prn.symm];exact sC _ _ (xB.get na enA)
   ·rw[ig]; exact a7
   ·exact((tB.same sC).eZ ZF).mono ∅
   ·exact(x5.trans (x6.trans x6C)).eZ f4' ZF
  ·intro N hN;ext;refine cF.of t5 ∅ ⋯ ⋯ fun d6 H6 d60 d61 t6 x6=>?_
   ext;have pp:qQ [V.ref a] H6 (fun x H1=>N [some (V.ref a),some (V.int (m:Nat)),some (V.ref pn),some (V.ref pr),some (V.int (0+(i:Nat))),some x,o6,none,none] H1) E0:=⟨a,_,rfl,t6,∅,fun p x H7 hx ax t7 x7=>hN _ _ ⟨_,x,rfl,hx,ax.mono jH,t7,x6.trans x7⟩⟩
   exact cA (fun _=>pp) (fun _=>pp)
 ·rintro σ H5 ⟨ts,us,o4,o5,o6,rfl,lt,lu,ets,hps,hog,en5,e5,a5,t5,x5⟩;ext;have hlen:=a5.length;rw[bW] at hlen;obtain⟨mV,TA⟩:=uF a5;refine qu (((ts.map (·.2.1)).map gm.lo).map .int) (uD ts mV) (jN ts mV) (fun R hR=>by ext; exact hR) e5 (by simp; omega) ∅ (gk _) ?_ ?_
  ·intro j x d' H' hx hd s';have TB:=TA.mono s'.kp;refine⟨fun R hR=>yG TB hx hR,fun R hR=>?_⟩;have hj:j<ts.length:=by rw[<- hlen]; exact(iY.mp hx).1
   have et:ts[j]?=some ts[j]:=dC hj;obtain⟨vp,ev,av⟩:=TB.ap.nth (i:=j) (d:=dh ts[j].2.1) (by rw[cM,cM,et]; rfl)
   rw[cM,cM,cM,et] at hd;cases hd;rw[jC et];ext;rw[iV,ev];obtain⟨a0,xs0,ea0,h1,h2⟩:=bB av;obtain⟨x0,_,rfl,b0,h2⟩:=aj.aR h2;obtain⟨x1,_,rfl,b1,h2⟩:=aj.aR h2;obtain⟨x2,_,rfl,b2,h2⟩:=aj.aR h2;obtain⟨c0,cs0,rfl,g1,g2⟩:=bB b2;have:=cz (cs:=[ts[j].2.1.lo,ts[j].2.1.hi]) g2;subst this;subst ea0;refine Ix.tup h1 (aV (j:=2) rfl) (Ix.tup g1 (aV (j:=0) rfl) ?_);exact hR _ _ (aL.refl _) (At.int _)
  ·intro acc ns H6 f6 s6 e6 a6;have:=cz a6;subst this;refine⟨acc,_,rfl,.inl e6,?_⟩;refine cF.of (t5.same s6) ∅ ⋯ ⋯ fun r1 H7 r10 r11 t7 x7=>?_
   refine cF.of t7 ∅ ⋯ ⋯ fun r2 H8 r20 r21 t8 x8=>?_
   refine⟨_,_,rfl,rfl,⋯,fun p9 H9 f9 s9 e9=>?_⟩
   refine cF.of (t8.same s9) ∅ ⋯ ⋯ fun r3 HA r30 r31 tA xA=>?_
   have p9a:=t8.ne f9
   obtain⟨mo,emo,mo0⟩:∃mo:Int,zV [V.int 60,V.int 0,V.int r1,V.int (1+r2)] r3=some (.int mo)/\0<=mo:=by
    have:r3=0\/r3=1\/r3=2\/r3=3:=by omega
    rcases this with rfl | rfl | rfl | rfl
    ·exact⟨60,rfl,⋯⟩
    ·exact⟨0,rfl,⋯⟩
    ·exact⟨r1,rfl,r10⟩
    ·exact⟨1+r2,rfl,∅⟩
   refine Ix.lst (xA.get p9a e9) emo ⟨_,_,rfl,rfl,⋯,fun pz HB fz sB eB=>?_⟩
   have x5A:SX a H5 HA:=(SX.of s6).trans (x7.trans (x8.trans ((SX.of s9).trans xA)));have x5B:=x5A.trans (SX.of sB)
   have aae:∀(l:List T3),(∀x∈l,uz x.2.1)->0<=((l.map (·.2.1)).map gm.lo).sum/\((l.map (·.2.1)).map gm.lo).sum<=12*l.length:=by
    intro l
    induction l with
    | nil=>intro _; simp
    | cons x l ih=>
     intro hl;obtain⟨i1,i2⟩:=ih fun z hz=>hl z (jb _ hz);have hx:=hl x (iK ..);have:=hx.lo;have:=hx.hi;simp only[iI,Af,fH];omega
   obtain⟨b1,b2⟩:=aae ts hps;rw[<- lz,pH] at ets;refine q pz pr _ ts us HB eB f4' ZF (sB _ _ (x5A.get ZF e5)) (aj.kp (Js t5 x5B) _ _ (mX _) a5) ⟨∅,∅,?_,?_,?_,?_⟩ hps (by split <;> omega) ((tA.same sB).mono ∅) (x5.trans x5B)
   ·rw[ets];exact Q_ ndz
   ·intro x hx;have:x.1∈ts.map (·.1):=cV.mpr ⟨x,hx,rfl⟩;rw[ets] at this;obtain⟨z,hz,e⟩:=cV.mp this;exact⟨z,e.symm,gz z hz⟩
   ·intro j x z h1 h2;rw[ets];exact hog j x z h1 h2
   ·split <;> omega
def XS:Sp:=fun vs H Q _=>∃(a:Addr)(n:Nat)(tot:Int)(q:Addr)(us:List V),vs=[.ref a,.int tot,.ref q]/\Tp H a n/\n<=10000000/\q≠a/\H q=some (.lst us)/\us.length<=5/\∀v H',(v=.non\/∃l zs ss,v=.ref l/\H l=none/\l≠a/\H' l=some (.lst zs)/\aj H' (List.map n_ ss) zs/\ss.length=us.length/\(∀z∈ss,Jd z/\0<=z.t)/\hands ss<=tot)->Tp H' a (n+400)->SX a H H'->Q v H'
theorem vK:bf ["_law_tape_here","_law_total","_law_rows","_law_stands_here","_law_there"] AY (aK qW):=(by walk_at "c")
theorem HN(F:iT K "_law_stands" "_law_stands" qW f fd)(B:Bi mg)(aM:Ct P w K mg base k "_law_draw" AL gH)(Qq:Ct P w K mg base k "_law_stand" AM Lz):bI P w K mg base gQ (k+1) f fd AY XS:=by
 refine F.ok vK (hbody:=(0:))
 obtain⟨a,n,tot,qa,us,rfl,tp,hn,Yb,eq',lu,q⟩:=h;have ND:=vK.nd;refine⟨_,(aA (b_ (bc fW (pf aM hr (ao (pv 0) (ao aq ak))) aq (bj _)) (aH (bw gf)) bD) (aA (Eg (i:=3) ND rfl (by walk_at "o") (N':=["_law_row_here","_law_tape_here"]) (js:=[0]) rfl (bM (K:=K) rfl (pv 2)) sr.mk1 rfl ⋯ rfl (fun fp s' H'=>(pf Qq hr (ao (pv 1) ak)))) (aA (aW (i:=4) (pb (dB rfl) B.sum jg (ao (dR (N':=["_law_stand_here"]) (js:=[]) rfl (bM (K:=K) rfl (pv 3)) sr.Wy rfl ⋯ rfl (fun fp s' H'=>(aO bz (bu aZ (pv 0) aq) (pb (dB rfl) B.sum jg (ao (bu aZ (pv 0) aq) ak))))) ak))) (aH (bw (cg (bc Hy (pv 4) (pv 1) (bj _)) (pv 3) gf)))))),?_⟩
 ext;refine cF.of tp ∅ ⋯ ⋯ fun d H1 d0 d1 t1 x1=>?_
 ext;refine cA (fun _=>q _ _ (.inl rfl) (t1.mono ∅) x1) (fun _=>?_)
 rw[BR];ext;have eq1:=x1.get Yb eq';refine LCK.inv eq1 (jE (a_ ∅)) fun acc hacc=>?_
 have Yv:=t1.ne hacc;have acq:acc≠qa:=fun z=>by rw[z,eq1] at hacc; cases hacc
 refine⟨fun i ys H'=>∃ss:List jk,ss.length=i/\ys.length=i/\(∀z∈ss,StL z)/\H' acc=some (.lst ys)/\aj H' (ss.map n_) ys/\Tp H' a (n+1+60*i)/\SX a H1 H',?_,?_,?_,?_⟩
 ·exact⟨[],rfl,rfl,by simp,aB,aj.nil,(t1.eZ Yv).mono ∅,(SX.refl a H1).eZ hacc Yv⟩
 ·rintro i ys H' _ ⟨ss,_,ly,_,e,_,_,x⟩;exact⟨ly,x.get Yb eq1,e⟩
 ·rintro i x ys H2 hx ⟨ss,ls,ly,hss,e2,a2,t2,x2⟩ R hR;have hi:=(iY.mp hx).1;show nJ _ _ _ _ [some x,some (.ref a)] H2 _;ext;refine⟨a,_,rfl,t2,∅,fun p st H3 hst ast t3 x3=>hR _ _ (x3.get Yv e2) ?_⟩
  have e3:=x3.get Yv e2;have k3:dH H3 (upd H3 acc (.lst (ys++[.ref p]))):=dH.putL e3;refine⟨ss++[st],by rw[dg,ls]; rfl,by rw[dg,ly]; rfl,?_,aB,?_,(t3.eZ Yv).mono ∅,(x2.trans x3).eZ hacc Yv⟩
  ·intro z hz;rcases iJ.mp hz with h | h
   ·exact hss z h
   ·rw[iU.mp h]; exact hst
  ·rw[ig];exact(aj.kp ((Js t2 x3).trans k3) _ _ (gq _) a2).snoc (At.kp k3 _ _ (jD _) (ast.mono jH))
 ·rintro ys H2 ⟨ss,ls,ly,hss,e2,a2,t2,x2⟩;refine lF ((ss.map hnd).map .int) (fun R hR=>by ext; exact hR) e2 (by simp; omega) ∅ (gk _) (fun i x d H' hx hd s' R hR=>?_) fun Ux vs H' f' s' e' a'=>?_
  ·rw[cM,cM] at hd;obtain⟨d',hd',ad⟩:=a2.get hx;rw[cM] at hd';cases ex:ss[i]? with
   | none=>rw[ex] at hd; cases hd
   | some x'=>
    rw[ex] at hd hd';cases hd;cases hd';obtain⟨a0,xs0,rfl,h1,h2⟩:=bB (ad.mono s');obtain⟨x0,_,rfl,b0,h2⟩:=aj.aR h2;obtain⟨x1',_,rfl,b1,h2⟩:=aj.aR h2;obtain⟨x2',_,rfl,b2,h2⟩:=aj.aR h2;obtain⟨c0,cs0,rfl,g1,g2⟩:=bB b2;have:=cz (cs:=x'.cs) g2;subst this;have e1:x1'=.int x'.r:=by unfold At at b1; exact b1
    subst e1;ext;exact Ix.tup h1 (aV (j:=1) rfl) (Ix.tup h1 (aV (j:=2) rfl) ⟨c0,x'.cs,rfl,.inr g1,_,_,rfl,rfl,hR _ _ (aL.refl _) (At.int _)⟩)
  ·have:=cz a';subst this;refine⟨Ux,_,rfl,.inl e',?_⟩;have t3:=(t2.same s').mono (m:=n+400) ∅
   have x3:=x1.trans (x2.trans (SX.of s'));refine cA (fun c=>q _ _ (.inr ⟨acc,ys,ss,rfl,sxF x1 Yv hacc,Yv,s' _ _ e2,a2.mono s',ls,fun z hz=>⟨(hss z hz).n,(hss z hz).t.1⟩,rC c⟩) t3 x3) (fun _=>q _ _ (.inl rfl) t3 x3)
structure CmG(ns:List Str)(cs:List (Str×Int)):Prop where
 nd:(cs.map (·.1)).Nodup
 ni:∀c∈cs,c.1∈ns
 l:cs.length<=5
def Zk:Sp:=fun vs H Q _=>∃(a:Addr)(n:Nat)(q:Addr)(ns:List Str),vs=[.ref a,.ref q]/\Tp H a n/\n<=10000000/\q≠a/\H q=some (.lst (ns.map V.str))/\ns.Nodup/\ns.length<=5/\∀p us cs H',H p=none->p≠a->H' p=some (.lst us)->aj H' (List.map U7 cs) us->CmG ns cs->Tp H' a (n+40)->SX a H H'->Q (.ref p) H'
theorem xV:bf ["_law_tape_here","_law_names_here","_law_great","_law_comes_here","_law_name","_law_come"] AZ (aK uO):=(by walk_at "c")
theorem aj.ins{H:Hp}{d:PyData}{v:V}(h:At H d v):∀(i:Nat){ds:List PyData}{vs:List V},aj H ds vs->aj H (ds.take i++d::ds.drop i) (vs.take i++v::vs.drop i)
 | 0,ds,vs,a=>by simpa using aj.cons h a
 | i+1,[],vs,a=>by cases aj.iu a; exact aj.cons h aj.nil
 | i+1,e::ds,vs,a=>by
  obtain⟨x,r,rfl,h1,h2⟩:=aj.aR a;exact aj.cons h1 (aj.ins h i h2)
theorem J5(F:iT K "_law_comes" "_law_comes" uO f fd)(B:Bi mg)(aM:Ct P w K mg base k "_law_draw" AL gH)(fJ:Ct P w K mg base k "_law_units" AM qe):bI P w K mg base gQ (k+1) f fd AZ Zk:=by
 refine F.ok xV (hbody:=(0:))
 obtain⟨a,n,qa,ns,rfl,tp,hn,Yb,eq',hnd,hl5,q⟩:=h;have ND:=xV.nd;refine⟨_,(aA (pJ (i:=2) (j:=3) rfl ND rfl rfl ⋯ rfl rfl (ao (eG fW (pf aM hr (ao (pv 0) (ao aq ak))) aq (bj _)) (ao (bF ak) ak)) (by rfl)) (aA (gK PassesOwn.never rfl (bM (K:=K) rfl (pv 1)) (aG (i:=4)) (aH (b_ (bc pK (pf aM hr (ao (pv 0) (ao aq ak))) aq (bj _)) (aA (aW (i:=5) (cg (dX (pv 2)) (pf fJ hr (ao (pv 0) ak)) (pf aM hr (ao (pv 0) (ao aq ak))))) (aH (cQ (ik (K:=K) rfl PySem.F.plainAttrs_list PySem.F.slot_list_insert PySem.F.type_list_insert J_ (pv 3) (ao (pf aM hr (ao (pv 0) (ao (aO bz (pb (cX (K:=K) rfl) B.len fQ (ao (pv 3) ak)) aq) ak))) (ao (bx (ao (pv 4) (ao (pv 5) ak))) ak)))))) bD))) (aH (bw (pv 3))))),?_⟩
 simp only[sO 5];ext;refine cF.of tp ∅ ⋯ ⋯ fun d H1 d0 d1 t1 x1=>?_
 ext;refine⟨⋯,fun p H2 f2 s2 e2=>?_⟩
 have pa:=t1.ne f2;have f0:H p=none:=sxF x1 pa f2;generalize decide (d=0)=gr;refine⟨_,_,rfl,?_⟩;rw[oH];ext;have eq2:=s2 _ _ (x1.get Yb eq');have pq:p≠qa:=fun z=>by rw[z,x1.get Yb eq'] at f2; cases f2
 refine LK.of eq2 (fun i σ H'=>∃(us:List V)(cs:List (Str×Int))(o4 o5:Option V),σ=[some (V.ref a),some (V.ref qa),some (V.bl gr),some (V.ref p),o4,o5]/\cs.length<=i/\us.length=cs.length/\(cs.map (·.1)).Nodup/\(∀c∈cs,c.1∈ns.take i)/\H' p=some (.lst us)/\aj H' (cs.map U7) us/\Tp H' a (n+1+6*i)/\SX a H H'/\H' qa=some (.lst (ns.map V.str)))
  ⟨[],[],_,_,rfl,bJ _,rfl,by simp,by simp,e2,aj.nil,(t1.same s2).mono ∅,x1.trans (SX.of s2),eq2⟩ (fun i σ H' _ ⟨_,_,_,_,_,_,_,_,_,_,_,_,_,z⟩=>z) ?_ ?_
 ·rintro i x σ H3 hx ⟨us,cs,o4,o5,rfl,li,lu,nd,ni,e3,a3,t3,x3,eq3⟩;rw[cM] at hx;cases en:ns[i]? with
  | none=>rw[en] at hx; cases hx
  | some nm=>
  rw[en] at hx;cases hx;have hi:i<ns.length:=(iY.mp en).1
  have nin:∀c∈cs,c.1≠nm:=fun c hc e=>by
   have h1:=ni c hc;rw[e] at h1;obtain⟨j,hj⟩:=Aj h1;rw[List.getElem?_take] at hj;split at hj
   ·have:=HY hnd hj en;omega
   ·cases hj
  have tk:∀c∈cs,c.1∈ns.take (i+1):=fun c hc=>by rw[cY en]; exact RP _ (ni c hc)
  ext;refine cF.of t3 ∅ ⋯ ⋯ fun d4 H4 d40 d41 t4 x4=>?_
  have eq4:=x4.get Yb eq3;have e4:=x4.get pa e3;have a4:=aj.kp (Js t3 x4) _ _ (ud _) a3;ext;refine cA (fun _=>?_) (fun _=>⟨us,cs,_,_,rfl,∅,lu,nd,tk,e4,a4,t4.mono ∅,x3.trans x4,eq4⟩)
  refine gR.of (R:=fun σ H'=>∃c:Int,σ=[some (V.ref a),some (V.ref qa),some (V.bl gr),some (V.ref p),some (V.str nm),some (.int c)]/\Tp H' a (n+1+6*i+5)/\SX a H4 H') ?_ ?_
  ·rintro σ H5 ⟨c,rfl,t5,x5⟩;have e5:=x5.get pa e4;have eq5:=x5.get Yb eq4;have a5:=aj.kp (Js t4 x5) _ _ (ud _) a4;ext;refine⟨.inl ⟨rfl,_,cG.of e5⟩,⟨p,us,rfl,.inl (cG.of e5),?_⟩⟩;refine⟨_,_,rfl,rfl,?_⟩;refine cF.of t5 ∅ ∅ ∅ fun d6 H6 d60 d61 t6 x6=>⟨⋯,fun p7 H7 f7 s7 e7=>?_⟩
   have e6:=x6.get pa e5;have e7':=s7 _ _ e6;refine⟨p,us,d6,d6.toNat,.ref p7,rfl,rfl,∅,e7',∅,∅,?_⟩
   have k8:dH H7 (upd H7 p (.lst (us.take d6.toNat++V.ref p7::us.drop d6.toNat))):=dH.putL e7';have k58:=(Js t5 x6).trans (s7.kp.trans k8);have ap7:At (upd H7 p (.lst (us.take d6.toNat++V.ref p7::us.drop d6.toNat))) (U7 (nm,c)) (.ref p7):=At.tup (k8 _ _ e7) (aj.cons (At.str _) (aj.cons (At.int _) aj.nil));refine⟨_,cs.take d6.toNat++(nm,c)::cs.drop d6.toNat,_,_,rfl,?_,?_,?_,?_,aB,?_,?_,?_,?_⟩
   ·simp only[dg,k_,fH,wz]; omega
   ·simp only[dg,k_,fH,wz]; omega
   ·rw[ig,iI,Ck,List.map_drop,tG];have tn:=List.take_append_drop d6.toNat (cs.map (·.1));rw[<- tn,tG] at nd;obtain⟨n1,n2,n3⟩:=nd;have nm1:nm∉cs.map (·.1):=fun z=>by obtain⟨c',hc',e⟩:=cV.mp z; exact nin c' hc' e
    refine⟨n1,jY.mpr ⟨fun z=>nm1 (Hb z),n2⟩,fun u hu v hv=>?_⟩;rcases bN.mp hv with h | h
    ·exact fun e=>nm1 (by have:=wB hu; rw[e,h] at this; exact this)
    ·exact n3 u hu v h
   ·intro c' hc';rcases iJ.mp hc' with h | h
    ·exact tk c' (wB h)
    ·rcases bN.mp h with h | h
     ·rw[h,cY en]; exact ju _ (by simp)
     ·exact tk c' (Hb h)
   ·rw[ig,iI,Ck,List.map_drop];exact aj.ins ap7 _ (aj.kp k58 _ _ (ud _) a5)
   ·exact((t6.same s7).eZ pa).mono ∅
   ·exact(x3.trans (x4.trans (x5.trans (x6.trans (SX.of s7))))).eZ f0 pa
   ·rw[aJ (Ne.symm pq)];exact s7 _ _ (x6.get Yb eq5)
  ·intro N hN;ext;refine cA (fun _=>⟨a,_,rfl,t4,∅,fun v H5 _ _ t5 x5=>hN _ _ ⟨v,rfl,t5.mono ∅,x5⟩⟩) (fun _=>cF.of t4 ∅ ⋯ ⋯ fun v H5 _ _ t5 x5=>hN _ _ ⟨v,rfl,t5.mono ∅,x5⟩)
 ·rintro σ H3 ⟨us,cs,o4,o5,rfl,li,lu,nd,ni,e3,a3,t3,x3,eq3⟩;ext;rw[bW] at li ni t3;exact q p us cs H3 f0 pa e3 a3 ⟨nd,fun c hc=>wB (ni c hc),∅⟩ (t3.mono ∅) x3
theorem Ut{y:Yd}{cs:List (Str×Int)}(YO:fB y)(h:y.pa.length<500):fB (La y cs):=by
 have R:=sZ (cm:=xj y.ns cs) YO (bJ _);have F:=fZ y (xj y.ns cs) y.ns.length;have e:La y cs={ (eV y (xj y.ns cs) y.ns.length).1 with pa:=y.pa++[Jg y cs] }:=rfl
 rw[e];have l:=F.r;refine { R with pn:=by show(y.pa++[Jg y cs]).length<=500; rw[dg]; simp; omega,pl:=fun r hr=>?_ }
 rcases iJ.mp hr with z | z
 ·exact YO.pl r z
 ·rw[iU.mp z];have:=YO.n5;show(eV y (xj y.ns cs) y.ns.length).2.2.length<=5;omega
theorem MP{H:Hp}{ds:List PyData}{v:V}(h:At H (.list ds) v):∃a xs,v=.ref a/\H a=some (.lst xs)/\aj H ds xs:=by unfold At at h; exact h
def SD:Nat->PyData->Prop
 | 0,_=>False
 | n+1,d=>(∃i,d=.int i)\/d=.none\/(∃t,d=.str t/\PyData.canLay0 (.str t)=true)\/(∃ds,d=.tuple ds/\ds.length<=1000/\∀e∈ds,SD n e)\/∃ds,d=.list ds/\ds.length<=1000/\∀e∈ds,SD n e
theorem SD.int{n:Nat}(i:Int):SD (n+1) (.int i):=.inl ⟨i,rfl⟩
theorem SD.none{n:Nat}:SD (n+1) .none:=.inr (.inl rfl)
theorem SD.str{n:Nat}{t:Str}(h:PyData.canLay0 (.str t)=true):SD (n+1) (.str t):=.inr (.inr (.inl ⟨t,rfl,h⟩))
theorem SD.tup{n:Nat}{ds:List PyData}(h:ds.length<=1000)(ha:∀e∈ds,SD n e):SD (n+1) (.tuple ds):=.inr (.inr (.inr (.inl ⟨ds,rfl,h,ha⟩)))
theorem SD.lst{n:Nat}{ds:List PyData}(h:ds.length<=1000)(ha:∀e∈ds,SD n e):SD (n+1) (.list ds):=.inr (.inr (.inr (.inr ⟨ds,rfl,h,ha⟩)))
theorem SD.ints{n:Nat}{l:List Int}(h:l.length<=1000):SD (n+2) (.tuple (l.map .int)):=SD.tup (by rw[bW]; exact h) fun e he=>by obtain⟨i,_,rfl⟩:=cV.mp he; exact SD.int i
theorem SD.stn{n:Nat}{st:jk}(h:FZ st):SD (n+4) (n_ st):=SD.tup (by show 6<=1000; decide) fun e he=>by
 simp only[bN,e_,or_false] at he;rcases he with rfl | rfl | rfl | rfl | rfl | rfl
 ·exact SD.int _
 ·exact SD.int _
 ·exact SD.ints (by rw[h.c]; decide)
 ·exact SD.int _
 ·exact SD.int _
 ·exact SD.tup (by rw[bW,h.u]; decide) fun e he=>by
   obtain⟨u,hu,rfl⟩:=cV.mp he;exact SD.ints (by rw[h.l u hu]; decide)
theorem SD.data:∀(n:Nat)(d:PyData),SD n d->PyData.hasDict d=false/\PyData.canLay0 d=true/\PyData.depth d<=n
 | 0,_,h=>h.elim
 | n+1,d,h=>by
  have all:∀ds:List PyData,(∀e∈ds,SD n e)->PyData.hasDictAll ds=false/\PyData.canLayAll0 ds=true/\PyData.depthAll ds<=n:=fun ds=>by
   induction ds with
   | nil=>exact fun _=>⟨rfl,rfl,gU _⟩
   | cons e r ih=>
    intro ha;obtain⟨h1,h2,h3⟩:=ih fun e he=>ha e (jb _ he);obtain⟨k1,k2,k3⟩:=SD.data n e (ha e iK);refine⟨?_,?_,?_⟩
    ·unfold PyData.hasDictAll; rw[k1,h1]; rfl
    ·unfold PyData.canLayAll0; rw[k2,h2]; rfl
    ·unfold PyData.depthAll; exact Nat.max_le.mpr ⟨k3,h3⟩
  rcases h with⟨i,rfl⟩ | rfl | ⟨t,rfl,hc⟩ | ⟨ds,rfl,hn,hds⟩ | ⟨ds,rfl,hn,hds⟩
  ·exact⟨rfl,rfl,gU _⟩
  ·exact⟨rfl,rfl,gU _⟩
  ·exact⟨rfl,hc,gU _⟩
  ·obtain⟨h1,h2,h3⟩:=all ds hds;exact⟨by unfold PyData.hasDict; exact h1,by unfold PyData.canLay0; exact h2,by unfold PyData.depth; omega⟩
  ·obtain⟨h1,h2,h3⟩:=all ds hds;exact⟨by unfold PyData.hasDict; exact h1,by unfold PyData.canLay0; exact h2,by unfold PyData.depth; omega⟩
def Rr(n:Nat):Sp:=fun vs H Q _=>∃(v u:V)(d:PyData),vs=[v,u]/\At H d v/\At H d u/\SD n d/\n<=60/\∀H',aL H H'->Q (.bl true) H'
theorem uH:bf Ap Ap (aK sY):=(by walk_at "c")
theorem J0(F:iT K "_law_same" "_law_same" sY f fd):bI P w K mg base gQ (k+1) f fd Ap (Rr 0):=by
 refine F.ok uH (hbody:=(0:))
 obtain⟨v,u,d,rfl,_,_,h,_⟩:=h;exact h.elim
theorem rY{G:Hp}:∀{bs:List Bool}{xs:List V},aj G (bs.map PyData.bool) xs->xs=bs.map V.bl
 | [],xs,h=>by unfold aj at h; exact h
 | b::bs,xs,h=>by
  obtain⟨x,r,rfl,h1,h2⟩:=aj.aR (d:=PyData.bool b) (ds:=bs.map PyData.bool) h;unfold At at h1;rw[h1,rY h2]; rfl
theorem jM(n:Nat)(F:iT K "_law_same" "_law_same" sY f fd)(B:Bi mg)(mR:Ct P w K mg base k "_law_same" Ap (Rr n)):bI P w K mg base gQ (k+1) f fd Ap (Rr (n+1)):=by
 refine F.ok uH (hbody:=(0:))
 obtain⟨v,u,d,rfl,hv,hu,hd,ako,q⟩:=h;have ND:=uH.nd;refine⟨_,(aA (b_ (dX (pb aan B.isinstance cu (ao (pv 1) (ao (bx (ao (pty (by rfl) B.list jK) (ao (pty (by rfl) B.tuple gW) ak))) ak)))) (aA (b_ (PW.pt (yC (bc Cy (pb Nk B.isinstance cu (ao (pv 0) (ao (pty (by rfl) B.list jK) ak))) (pb Nk B.isinstance cu (ao (pv 1) (ao (pty (by rfl) B.list jK) ak))) (bj _)) (rD (bc Cy (pb Nj B.isinstance cu (ao (pv 0) (ao (pty (by rfl) B.tuple gW) ak))) (pb Nj B.isinstance cu (ao (pv 1) (ao (pty (by rfl) B.tuple gW) ak))) (bj _))))) (aH (bw jo)) bD) (aH (bw (yF (eG fW (pb (cX (K:=K) rfl) B.len fQ (ao (pv 0) ak)) (pb (cX (K:=K) rfl) B.len fQ (ao (pv 1) ak)) (bj _)) (JT (pb (mQ rfl) B.all zU (ao (mK (nt:=2) (N':=["_law_one","_law_other"]) (js:=[]) rfl (V9 (K:=K) rfl B.zip (ao (pv 0) (ao (pv 1) ak))) oA.of (fun fp s' H'=>(bL (K:=K) (n:=2) rfl rfl (aF (aGN ["_law_one","_law_other"] 0) (aF (aGN ["_law_one","_law_other"] 1) bG)))) (fun fp s' H'=>jh) (fun fp s' H'=>(pf mR hr (ao (pv 0) (ao (pv 1) ak))))) ak))))))) bD) (aA (b_ (PW.pt (yC (bc yH (pv 1) gf (bj _)) (rD (dX (pb wZ B.isinstance cu (ao (pv 1) (ao (pty (by rfl) B.str FN) ak))))))) (aH (bw (yF (eG fW (eG yH (pv 0) gf (bj _)) (eG yH (pv 1) gf (bj _)) (bj _)) (yF (eG fW (pb wZ B.isinstance cu (ao (pv 0) (ao (pty (by rfl) B.str FN) ak))) (pb wZ B.isinstance cu (ao (pv 1) (ao (pty (by rfl) B.str FN) ak))) (bj _)) (JT (eG (Su hr.units) (pv 0) (pv 1) (bj _))))))) bD) (aH (bw (yF (pb WW B.isinstance cu (ao (pv 0) (ao (pty (by rfl) B.int FP) ak))) (yF (ZR (pb Tg B.isinstance cu (ao (pv 0) (ao (pty (by rfl) B.bool Xk) ak)))) (JT (eG (Su hr.units) (pv 0) (pv 1) (bj _))))))))),?_⟩
 ext;refine⟨⋯,fun pt H1 f1 s1 e1=>?_⟩
 refine⟨_,d,pt,rfl,hu.mono s1,e1,?_⟩;have hv1:=hv.mono s1;have hu1:=hu.mono s1;obtain⟨D1,D2,D3⟩:=SD.data _ _ hd;rcases hd with⟨i,rfl⟩ | rfl | ⟨t,rfl,hc⟩ | ⟨ds,rfl,hn,hds⟩ | ⟨ds,rfl,hn,hds⟩
 ·have eu:u=.int i:=by unfold At at hu; exact hu
  subst eu;rw[aQ (by exact fun z=>by cases z)]
  refine⟨trivial,?_⟩;rw[aQ (by rw[decide_eq_true_eq]; exact fun z=>by cases z)]
  refine Jh.of hu1 ⟨_,rfl,?_⟩;rw[aQ (by exact fun z=>by cases z)]
  refine Jh.of hv1 ⟨_,rfl,?_⟩;rw[aX (by rfl)]
  refine Jh.of hv1 ⟨_,rfl,?_⟩;rw[aX (by rfl)]
  refine⟨_,_,hv1,hu1,rfl,rfl,rfl,rfl,by show 0<=60; decide,?_⟩
  rw[SeqAt.eqv_refl _ D2];exact q H1 s1
 ·have eu:u=.non:=by unfold At at hu; exact hu
  have ev:v=.non:=by unfold At at hv; exact hv
  subst eu ev;rw[aQ (by exact fun z=>by cases z)]
  refine⟨trivial,?_⟩;rw[aX (by rw[decide_eq_true_eq])]
  refine⟨trivial,trivial,rfl,_,rfl,?_⟩;rw[aX (by rw[decide_eq_true_eq])]
  refine Jh.of hv1 (Jh.of hu1 ⟨rfl,_,rfl,?_⟩);rw[aX (by rw[decide_eq_true_eq])]
  refine⟨_,_,hv1,hu1,D1,D1,D2,D2,∅,?_⟩
  rw[SeqAt.eqv_refl _ D2];exact q H1 s1
 ·have eu:u=.str t:=by unfold At at hu; exact hu
  have ev:v=.str t:=by unfold At at hv; exact hv
  subst eu ev;rw[aQ (by exact fun z=>by cases z)]
  refine⟨trivial,?_⟩;rw[aQ (by rw[decide_eq_true_eq]; exact fun z=>by cases z)]
  refine Jh.of hu1 ⟨_,rfl,?_⟩;rw[aX (by rfl)]
  refine⟨trivial,trivial,rfl,_,rfl,?_⟩;rw[aX (by rw[decide_eq_true_eq])]
  refine Jh.of hv1 (Jh.of hu1 ⟨rfl,_,rfl,?_⟩);rw[aX (by rw[decide_eq_true_eq])]
  refine⟨_,_,hv1,hu1,D1,D1,D2,D2,∅,?_⟩
  rw[SeqAt.eqv_refl _ D2];exact q H1 s1
 ·rw[aX (by rfl)]
  refine Jh.of hv1 (Jh.of hu1 ⟨rfl,_,rfl,?_⟩);rw[aQ (by show ¬((!decide (V.bl false=V.bl false))=true); decide)]
  refine Jh.of hv1 (Jh.of hu1 ⟨rfl,_,rfl,?_⟩);rw[aQ (by show ¬((!decide (V.bl true=V.bl true))=true); decide)]
  obtain⟨a,xs,rfl,ha,hxs⟩:=bB hv1;obtain⟨b,ys,rfl,hb,hys⟩:=bB hu1;have lx:xs.length=ds.length:=hxs.length;have ly:ys.length=ds.length:=hys.length;refine⟨a,xs,rfl,.inr (eX.of ha),b,ys,rfl,.inr (eX.of hb),?_⟩;rw[lx,ly];refine⟨rfl,_,rfl,?_⟩;rw[aX (by rw[decide_eq_true_eq])]
  rw[BV];refine .inl ?_;refine Qk (es:=(ds.map fun _=>true).map PyData.bool) (fun R hR=>?_) ha hb (by simp; omega) (by simp; omega) (by simp only[bW]; exact jE (a_ ∅)) (bC.mpr fun d hd=>by obtain⟨z,_,rfl⟩:=cV.mp hd; rfl) (fun j x y e H' hx hy he s' R hR=>?_) (fun acc zs H' s' hacc hl hA=>?_)
  ·ext; exact hR
  ·obtain⟨d1,e1,a1⟩:=hxs.get hx;obtain⟨d2,e2,a2⟩:=hys.get hy;rw[e1] at e2;cases e2;rw[cM,cM,e1] at he;cases he;ext;exact⟨x,y,d1,rfl,a1.mono s',a2.mono s',hds _ (dz e1),∅,fun bO s''=>hR _ _ s'' (At.bool _)⟩
  ·cases rY hA;refine⟨acc,_,rfl,hl,?_⟩;rw[show(ds.map fun _=>true).all id=true by simp]
   exact q H' (s1.trans s')
 ·rw[aX (by rfl)]
  refine Jh.of hv1 (Jh.of hu1 ⟨rfl,_,rfl,?_⟩);rw[aQ (by show ¬((!decide (V.bl true=V.bl true))=true); decide)]
  refine Jh.of hv1 (Jh.of hu1 ⟨rfl,_,rfl,?_⟩);rw[aQ (by show ¬((!decide (V.bl false=V.bl false))=true); decide)]
  obtain⟨a,xs,rfl,ha,hxs⟩:=MP hv1;obtain⟨b,ys,rfl,hb,hys⟩:=MP hu1;have lx:xs.length=ds.length:=hxs.length;have ly:ys.length=ds.length:=hys.length;refine⟨a,xs,rfl,.inl (cG.of ha),b,ys,rfl,.inl (cG.of hb),?_⟩;rw[lx,ly];refine⟨rfl,_,rfl,?_⟩;rw[aX (by rw[decide_eq_true_eq])]
  rw[BV];refine .inr ?_;refine Ql (es:=(ds.map fun _=>true).map PyData.bool) (fun R hR=>?_) ha hb (by simp; omega) (by simp; omega) (by simp only[bW]; exact jE (a_ ∅)) (bC.mpr fun d hd=>by obtain⟨z,_,rfl⟩:=cV.mp hd; rfl) (fun j x y e H' hx hy he s' R hR=>?_) (fun acc zs H' s' hacc hl hA=>?_)
  ·ext; exact hR
  ·obtain⟨d1,e1,a1⟩:=hxs.get hx;obtain⟨d2,e2,a2⟩:=hys.get hy;rw[e1] at e2;cases e2;rw[cM,cM,e1] at he;cases he;ext;exact⟨x,y,d1,rfl,a1.mono s',a2.mono s',hds _ (dz e1),∅,fun bO s''=>hR _ _ s'' (At.bool _)⟩
  ·cases rY hA;refine⟨acc,_,rfl,hl,?_⟩;rw[show(ds.map fun _=>true).all id=true by simp]
   exact q H' (s1.trans s')
theorem Rn{l:List Nat}(h:∀c∈l,c<128):PyData.strOk (tx l)=true:=by
 show l.toArray.all (· < 0x110000)=true;simp only[List.all_toArray,qw,decide_eq_true_eq];intro c hc;have:=h c hc;omega
theorem SD.mono:∀{n m:Nat}{d:PyData},SD n d->n<=m->SD m d
 | 0,_,_,h,_=>h.elim
 | n+1,0,_,_,l=>by omega
 | n+1,m+1,d,h,l=>by
  rcases h with h | h | h | ⟨ds,rfl,l1,h⟩ | ⟨ds,rfl,l1,h⟩
  ·exact .inl h
  ·exact .inr (.inl h)
  ·exact .inr (.inr (.inl h))
  ·exact SD.tup l1 fun e he=>SD.mono (h e he) ∅
  ·exact SD.lst l1 fun e he=>SD.mono (h e he) ∅
theorem SD.row{r:jz}(h:QF r):SD 2 (ym r):=SD.tup (by show 5<=1000; decide) fun e he=>by
 have hw:=h.is.w;have hg:=h.g;simp only[bN,e_,or_false] at he hw hg;rcases he with rfl | rfl | rfl | rfl | rfl
 ·exact SD.str (by rcases hw with e | e | e <;> rw[e] <;> kernel_rfl)
 ·exact SD.int _
 ·exact SD.str (by rcases hg with e | e | e <;> rw[e] <;> kernel_rfl)
 ·exact SD.int _
 ·exact SD.int _
theorem SD.pst{x:gm}(h:uz x):SD 5 (dh x):=SD.tup (by show 7<=1000; decide) fun e he=>by
 simp only[bN,e_,or_false] at he;rcases he with rfl | rfl | rfl | rfl | rfl | rfl | rfl
 ·exact SD.int _
 ·exact SD.int _
 ·exact SD.ints (l:=[x.lo,x.hi]) (by show 2<=1000; decide)
 ·exact SD.int _
 ·exact SD.int _
 ·exact SD.ints (l:=[x.u,x.d]) (by show 2<=1000; decide)
 ·refine SD.tup (by rw[bW]; have:=h.n; omega) fun e he=>?_
  obtain⟨rs,hrs,rfl⟩:=cV.mp he;have hr:=h.r rs hrs;refine SD.tup (by rw[bW]; have:=hr.hi; omega) fun e he=>?_
  obtain⟨r,hr',rfl⟩:=cV.mp he;exact SD.row (hr.g r hr')
theorem SD.on{o:Option Str}(h:∀z,o=some z->PyData.strOk z=true):SD 1 (Jf o):=by
 cases o with
 | none=>exact SD.none
 | some z=>exact SD.str (h z rfl)
theorem fB.str{y:Yd}(h:fB y){n:Str}(hn:n∈y.ns):PyData.strOk n=true:=by
 obtain⟨cs,rfl,hc⟩:=h.ng n hn;exact Rn fun c hc'=>by have:=(hc.g c hc').2; omega
theorem fB.onS{y:Yd}(h:fB y){i:Nat}{o:Option Str}(ho:y.os[i]?=some o):∀z,o=some z->PyData.strOk z=true:=fun z e=>by
 subst e;exact h.str (Hb (h.og i z ho))
theorem yD{H:Hp}{x:gm}{v:V}(h:At H (dh x) v):∃a b c d,v=.ref a/\H a=some (.tup [.int x.p,.int x.m,.ref b,.int x.a,.int x.e,.ref c,.ref d])/\H b=some (.tup [.int x.lo,.int x.hi])/\At H (.tuple [.int x.u,.int x.d]) (.ref c)/\At H (m7 x.gD) (.ref d):=by
 obtain⟨a,xs,rfl,h1,h2⟩:=bB h;obtain⟨x0,_,rfl,b0,h2⟩:=aj.aR h2;obtain⟨x1,_,rfl,b1,h2⟩:=aj.aR h2;obtain⟨x2,_,rfl,b2,h2⟩:=aj.aR h2;obtain⟨x3,_,rfl,b3,h2⟩:=aj.aR h2;obtain⟨x4,_,rfl,b4,h2⟩:=aj.aR h2;obtain⟨x5,_,rfl,b5,h2⟩:=aj.aR h2;obtain⟨x6,_,rfl,b6,h2⟩:=aj.aR h2;cases aj.iu h2;unfold At at b0 b1 b3 b4;subst b0 b1 b3 b4;obtain⟨b,ys,rfl,g1,g2⟩:=bB b2;obtain⟨c,zs,rfl,_,_⟩:=bB b5;obtain⟨d,ws,rfl,_,_⟩:=bB b6;obtain⟨y0,_,rfl,k0,g2⟩:=aj.aR g2;obtain⟨y1,_,rfl,k1,g2⟩:=aj.aR g2;cases aj.iu g2;unfold At at k0 k1;subst k0 k1;exact⟨a,b,c,d,rfl,h1,g1,b5,b6⟩
structure aaM(C:Addr)(H:Hp)(zs:List (Ya×Yd)):Prop where
 at_:∀z∈zs,bK C H z.1 z.2
 dj:∀(i j:Nat)(z z':Ya×Yd),zs[i]?=some z->zs[j]?=some z'->i≠j->∀c∈z.1.own,c∉z'.1.own
def acw(zs:List (Ya×Yd)):List Addr:=zs.flatMap fun z=>[z.1.dp,z.1.dn]
structure T0(ts0:List (List Int))(m:Nat):Prop where
 l:ts0.length=m
 g:∀t∈ts0,t.length=3
theorem acO{t:List Int}(h:t.length=3):∃a b c,t=[a,b,c]:=match t,h with
 | [a,b,c],_=>⟨a,b,c,rfl⟩
theorem adp{y:Yd}{cs:List (Str×Int)}:(La y cs).ns=y.ns:=(fZ y (xj y.ns cs) y.ns.length).n
theorem aaJ{y:Yd}{cs:List (Str×Int)}:(La y cs).tot=y.tot:=(fZ y (xj y.ns cs) y.ns.length).t
theorem Yu{y:Yd}{cs:List (Str×Int)}:(La y cs).pa=y.pa++[Jg y cs]:=rfl
theorem X8{y:Yd}{cm:List Int}:∀i,i<=y.ns.length->∀r∈(eV y cm i).2.2,r.n∈y.ns
 | 0,_,r,hr=>by simp[eV] at hr
 | i+1,h,r,hr=>by
  have e':eV y cm (i+1)=oK (eV y cm i) i:=rfl;rw[e'] at hr;unfold oK at hr;dsimp only at hr;rcases iJ.mp hr with z | z
  ·exact X8 i (Mp h) r z
  ·rw[iU.mp z];unfold z9;dsimp only;rw[(fZ y cm i).n,iV,dC (show i<y.ns.length by omega)]
   exact tE _
theorem agK{y:Yd}{cs:List (Str×Int)}:∀r∈Jg y cs,r.n∈y.ns:=X8 _ (bJ _)
theorem SD.rw{r:Rw}(h:PyData.strOk r.n=true):SD 2 (Ov r):=SD.tup (by show 5<=1000; decide) fun e he=>by
 simp only[bN,e_,or_false] at he;rcases he with rfl | rfl | rfl | rfl | rfl
 ·exact SD.str h
 all_goals exact SD.int _
def lnD(rs:List Rw):PyData:=.list (rs.map Ov)
theorem SD.ln{rs:List Rw}(h:∀r∈rs,PyData.strOk r.n=true)(l:rs.length<=1000):SD 3 (lnD rs):=SD.lst (by rw[bW]; exact l) fun e he=>by
 obtain⟨r,hr,rfl⟩:=cV.mp he;exact SD.rw (h r hr)
theorem Zq{a b:TS}{D:Ends}{σ:St}{H:Hp}(R:St->Hp->Prop)(hR:∀σ' H',R σ' H'->b D σ' H')(h:∀N:St->Hp->Prop,(∀σ' H',R σ' H'->N σ' H')->a { D with nx:=N } σ H):qP a b D σ H:=h _ hR
structure WD(C a:Addr)(H0:Hp)(m:Nat)(zs:List (Ya×Yd))(ls:List (Addr×List V))(H':Hp):Prop where
 ys:aaM C H' zs
 yo:∀z∈zs,fB z.2
 fo:∀z∈zs,∀c∈z.1.own,H0 c=none/\c≠a/\∀l∈ls,c≠l.1
 lo:∀l∈ls,H0 l.1=none/\l.1≠a/\H' l.1=some (.lst l.2)
 tp:Tp H' a m
 sx:SX a H0 H'
section
variable{C a:Addr}{H0 H' bO:Hp}{m m':Nat}{zs:List (Ya×Yd)}{ls:List (Addr×List V)}
theorem WD.xF(W:WD C a H0 m zs ls H')(x:SX a H' bO)(t:Tp bO a m'):WD C a H0 m' zs ls bO:=
 ⟨⟨fun z hz=>(W.ys.at_ z hz).keep (Js W.tp x) fun b hb o e=>x.get (W.fo z hz b hb).2.1 e,W.ys.dj⟩,W.yo,W.fo,fun l hl=>⟨(W.lo l hl).1,(W.lo l hl).2.1,x.get (W.lo l hl).2.1 (W.lo l hl).2.2⟩,t,W.sx.trans x⟩
theorem WD.grow(W:WD C a H0 m zs ls H')(s:aL H' bO):WD C a H0 m zs ls bO:=W.xF (SX.of s) (W.tp.same s)
theorem WD.free(W:WD C a H0 m zs ls H'){b:Addr}(e:H' b=none):H0 b=none/\b≠a/\(∀l∈ls,b≠l.1)/\∀z∈zs,b∉z.1.own:=by
 have ba:=W.tp.ne e;refine⟨sxF W.sx ba e,ba,fun l hl z=>?_,fun z hz hb=>?_⟩
 ·rw[z,(W.lo l hl).2.2] at e; cases e
 ·obtain⟨o,eo,_⟩:=(W.ys.at_ z hz).al b hb;rw[eo] at e; cases e
theorem WD.mem(W:WD C a H0 m zs ls H'){b:Addr}{vs:List V}(f:H0 b=none)(ba:b≠a)(o:∀z∈zs,b∉z.1.own)(e:H' b=some (.lst vs)):WD C a H0 m zs ((b,vs)::ls) H':=
 ⟨W.ys,W.yo,fun z hz c hc=>⟨(W.fo z hz c hc).1,(W.fo z hz c hc).2.1,fun l hl=>by
  rcases bN.mp hl with h | h
  ·rw[h]; intro e'; exact o z hz (show b∈z.1.own from(show c=b from e')▸hc)
  ·exact(W.fo z hz c hc).2.2 l h⟩,fun l hl=>by
  rcases bN.mp hl with h | h
  ·rw[h]; exact⟨f,ba,e⟩
  ·exact W.lo l h,W.tp,W.sx⟩
theorem WD.new(W:WD C a H0 m zs ls H'){b:Addr}{vs:List V}(e0:H' b=none)(s:aL H' bO)(e:bO b=some (.lst vs)):WD C a H0 m zs ((b,vs)::ls) bO:=by
 obtain⟨f1,f2,_,f4⟩:=W.free e0;exact(W.grow s).mem f1 f2 f4 e
theorem WD.acF(W:WD C a H0 m zs ls H'){b:Addr}{vs:List V}(e0:H' b=none)(x:SX a H' bO)(t:Tp bO a m')(e:bO b=some (.lst vs)):WD C a H0 m' zs ((b,vs)::ls) bO:=by
 obtain⟨f1,f2,_,f4⟩:=W.free e0;exact(W.xF x t).mem f1 f2 f4 e
theorem WD.less(W:WD C a H0 m zs ls H'){ls':List (Addr×List V)}(h:∀l∈ls',l∈ls):WD C a H0 m zs ls' H':=⟨W.ys,W.yo,fun z hz c hc=>⟨(W.fo z hz c hc).1,(W.fo z hz c hc).2.1,fun l hl=>(W.fo z hz c hc).2.2 l (h l hl)⟩,fun l hl=>W.lo l (h l hl),W.tp,W.sx⟩
theorem WD.kp(W:WD C a H0 m zs ls H'){S:List Addr}(f:Fr S H' bO)(hS:∀b∈S,b=a\/∃z∈zs,b∈z.1.own):dH H' bO:=f.kp fun b hb xs e=>by
 rcases hS b hb with h | ⟨z,hz,h⟩
 ·rw[h] at e; exact W.tp.neT e rfl
 ·obtain⟨o,eo,no⟩:=(W.ys.at_ z hz).al b h;rw[eo] at e; cases e; exact no _ rfl
theorem WD.aeG(W:WD C a H0 m zs ls H'){i:Nat}{A A':Ya}{y y':Yd}{S:List Addr}(hi:zs[i]?=some (A,y))(new:bK C bO A' y')(YO:fB y')(f:Fr S H' bO)(hS:∀b∈S,b∈A.own)(hA:∀c∈A'.own,c∈A.own\/H' c=none):WD C a H0 m (zs.set i (A',y')) ls bO:=by
 have hz:=dz hi;have hl:i<zs.length:=(iY.mp hi).1;have kp:dH H' bO:=W.kp f fun b hb=>.inr ⟨_,hz,hS b hb⟩
 have get:∀(j:Nat) z,(zs.set i (A',y'))[j]?=some z->(j=i/\z=(A',y'))\/(j≠i/\zs[j]?=some z):=fun j z h=>by
  rw[OD] at h;split at h
  ·rename_i e;cases h;exact .inl ⟨e.symm,rfl⟩
  ·rename_i e;exact .inr ⟨Ne.symm e,h⟩
 have nw:∀c∈A'.own,H0 c=none/\c≠a/\(∀l∈ls,c≠l.1)/\∀j z,j≠i->zs[j]?=some z->c∉z.1.own:=fun c hc=>by
  rcases hA c hc with h | h
  ·obtain⟨f1,f2,f3⟩:=W.fo _ hz c h;exact⟨f1,f2,f3,fun j z hj ej=>W.ys.dj i j _ z hi ej (Ne.symm hj) c h⟩
  ·obtain⟨f1,f2,f3,f4⟩:=W.free h;exact⟨f1,f2,f3,fun j z _ ej=>f4 z (dz ej)⟩
 refine⟨⟨fun z hz'=>?_,fun j k z z' h1 h2 ne c hc=>?_⟩,fun z hz'=>?_,fun z hz' c hc=>?_,fun l hl'=>⟨(W.lo l hl').1,(W.lo l hl').2.1,f _ _ (W.lo l hl').2.2 fun h=>(W.fo _ hz _ (hS _ h)).2.2 l hl' rfl⟩,?_,?_⟩
 ·obtain⟨j,hj⟩:=Aj hz';rcases get j z hj with⟨_,rfl⟩ | ⟨ne,e⟩
  ·exact new
  ·exact(W.ys.at_ z (dz e)).off f kp fun b hb hbS=>W.ys.dj j i z _ e hi ne b hb (hS b hbS)
 ·rcases get j z h1 with⟨e1,rfl⟩ | ⟨n1,e1⟩
  ·rcases get k z' h2 with⟨e2,rfl⟩ | ⟨n2,e2⟩
   ·omega
   ·exact(nw c hc).2.2.2 k z' n2 e2
  ·rcases get k z' h2 with⟨e2,rfl⟩ | ⟨n2,e2⟩
   ·exact fun h=>(nw c h).2.2.2 j z n1 e1 hc
   ·exact W.ys.dj j k z z' e1 e2 ne c hc
 ·obtain⟨j,hj⟩:=Aj hz';rcases get j z hj with⟨_,rfl⟩ | ⟨ne,e⟩
  ·exact YO
  ·exact W.yo z (dz e)
 ·obtain⟨j,hj⟩:=Aj hz';rcases get j z hj with⟨_,rfl⟩ | ⟨ne,e⟩
  ·exact⟨(nw c hc).1,(nw c hc).2.1,(nw c hc).2.2.1⟩
  ·exact W.fo z (dz e) c hc
 ·obtain⟨u1,u2,u3,eu,r⟩:=W.tp;exact⟨u1,u2,u3,f _ _ eu fun h=>(W.fo _ hz _ (hS _ h)).2.1 rfl,r⟩
 ·intro b o e;obtain⟨b1,b2⟩:=iM e;rw[cP b1]
  exact f _ _ (W.sx.get b1 b2) fun h=>by
   have:=(W.fo _ hz _ (hS _ h)).1;rw[b2] at this; cases this
theorem WD.made(W:WD C a H0 m zs ls H'){A:Ya}{y:Yd}(new:bK C bO A y)(YO:fB y)(s:aL H' bO)(hA:∀c∈A.own,H' c=none):WD C a H0 m (zs++[(A,y)]) ls bO:=by
 have W2:=W.grow s;have nw:∀c∈A.own,H0 c=none/\c≠a/\(∀l∈ls,c≠l.1)/\∀z∈zs,c∉z.1.own:=fun c hc=>W.free (hA c hc);refine⟨⟨fun z hz=>?_,fun j k z z' h1 h2 ne c hc=>?_⟩,fun z hz=>?_,fun z hz c hc=>?_,W2.lo,W2.tp,W2.sx⟩
 ·rcases iJ.mp hz with h | h
  ·exact W2.ys.at_ z h
  ·rw[iU.mp h]; exact new
 ·have get:∀(j:Nat) z,(zs++[(A,y)])[j]?=some z->(j<zs.length/\zs[j]?=some z)\/(j=zs.length/\z=(A,y)):=fun j z h=>by
   by_cases hj:j<zs.length
   ·rw[JR hj] at h; exact .inl ⟨hj,h⟩
   ·rw[Ef ∅] at h
    have:j-zs.length=0:=by
     cases e:j-zs.length with
     | zero=>rfl
     | succ e'=>rw[e] at h; simp at h
    rw[this] at h;cases h;exact .inr ⟨∅,rfl⟩
  rcases get j z h1 with⟨l1,e1⟩ | ⟨l1,rfl⟩
  ·rcases get k z' h2 with⟨l2,e2⟩ | ⟨l2,rfl⟩
   ·exact W2.ys.dj j k z z' e1 e2 ne c hc
   ·exact fun h=>(nw c h).2.2.2 z (dz e1) hc
  ·rcases get k z' h2 with⟨l2,e2⟩ | ⟨l2,rfl⟩
   ·exact(nw c hc).2.2.2 z' (dz e2)
   ·omega
 ·rcases iJ.mp hz with h | h
  ·exact W.yo z h
  ·rw[iU.mp h]; exact YO
 ·rcases iJ.mp hz with h | h
  ·exact W.fo z h c hc
  ·rw[iU.mp h] at hc;exact⟨(nw c hc).1,(nw c hc).2.1,(nw c hc).2.2.1⟩
theorem WD.opd(W:WD C a H0 m zs ls H'){op:Yd->Yd}(Y:aaM C bO (zs.map fun z=>(z.1,op z.2)))(YO:∀z∈zs,fB (op z.2))(t:Tp bO a m')(f:Fr (a::acw zs) H' bO):WD C a H0 m' (zs.map fun z=>(z.1,op z.2)) ls bO/\dH H' bO:=by
 have U0:∀b∈acw zs,∃z∈zs,b∈z.1.own:=fun b hb=>by
  obtain⟨w,hw,hb'⟩:=List.mem_flatMap.mp hb;refine⟨w,hw,?_⟩;unfold Ya.own;simp only[bN,e_,or_false] at hb';rcases hb' with rfl | rfl <;> simp
 refine⟨⟨Y,fun z hz=>?_,fun z hz c hc=>?_,fun l hl=>⟨(W.lo l hl).1,(W.lo l hl).2.1,f _ _ (W.lo l hl).2.2 fun h=>?_⟩,t,fun b o e=>?_⟩,W.kp f fun b hb=>?_⟩
 ·obtain⟨z0,h0,rfl⟩:=cV.mp hz;exact YO z0 h0
 ·obtain⟨z0,h0,rfl⟩:=cV.mp hz;exact W.fo z0 h0 c hc
 ·rcases bN.mp h with h | h
  ·exact(W.lo l hl).2.1 h
  ·obtain⟨z,hz,hb⟩:=U0 _ h;exact(W.fo z hz _ hb).2.2 l hl rfl
 ·obtain⟨b1,b2⟩:=iM e;rw[cP b1];refine f _ _ (W.sx.get b1 b2) fun h=>?_;rcases bN.mp h with h | h
  ·exact b1 h
  ·obtain⟨z,hz,hb⟩:=U0 _ h;have:=(W.fo z hz _ hb).1;rw[b2] at this; cases this
 ·rcases bN.mp hb with h | h
  ·exact .inl h
  ·exact .inr (U0 b h)
theorem Yi{t:Int}{ts:List T3}{ss:List jk}(T:QD t ts)(hp:∀x∈ts,uz x.2.1)(hl:ss.length=ts.length)(hS:∀z∈ss,Jd z)(hh:hands ss<=t):fB (Ib t ts ss):=by
 refine⟨T.nn,by show 1<=(ts.map _).length; rw[bW]; exact T.n1,by show(ts.map _).length<=5; rw[bW]; exact T.n5,by show(ts.map _).length=(ts.map _).length; rw[bW,bW],by show(ts.map _).length=(ts.map _).length; rw[bW,bW],by show ss.length=(ts.map _).length; rw[bW]; exact hl,by show(ts.map _).length=(ts.map _).length; rw[bW,bW],?_,?_,?_,hS,?_,hh,T.lm,by show 0<=500; decide,fun r hr=>by simp[Ib] at hr⟩
 ·intro n hn;obtain⟨x,hx,rfl⟩:=cV.mp hn;exact T.ng x hx
 ·intro x hx;obtain⟨z,hz,rfl⟩:=cV.mp hx;exact hp z hz
 ·intro i z hz
  replace hz:(ts.map (·.2.2))[i]?=some (some z):=hz
  rw[cM] at hz;cases e:ts[i]? with
  | none=>rw[e] at hz; cases hz
  | some x=>
   rw[e] at hz;exact T.og i x z e (Option.some.inj hz)
 ·intro u hu;obtain⟨_,_,rfl⟩:=cV.mp hu;rfl
theorem Wx(W:WD C a H0 m zs ls H'){t:Int}{p:Addr}{ys:List V}{ts:List T3}{sv:V}{ss:List jk}{P:Addr->Hp->Prop}{E:XK}(hp:H' p=some (.lst ys))(ha:aj H' (ts.map Ju) ys)(T:QD t ts)(hps:∀x∈ts,uz x.2.1)(hsv:(sv=.non/\ss=ts.map fun x=>gM x.2.1)\/∃l UL,sv=.ref l/\H' l=some (.lst UL)/\aj H' (ss.map n_) UL)(hl:ss.length=ts.length)(hS:∀z∈ss,Jd z)(hh:hands ss<=t)
  (q:∀A H2,aL H' H2->WD C a H0 m (zs++[(A,Ib t ts ss)]) ls H2->P A.p H2):∀y2 Yt,H' y2=none->H' Yt=none->Yt≠y2->Jx C [.ref y2,.int t,.ref p,sv] (upd (upd H' Yt (.own y2)) y2 (.ins C Yt [])) (fun v H2=>v=.non/\P y2 H2) E:=by
 intro y2 Yt fy fdx ne;have s3:aL H' (upd (upd H' Yt (.own y2)) y2 (.ins C Yt [])):=(aP fdx _).trans (aP (by rw[aJ ne.symm]; exact fy) _)
 refine⟨y2,Yt,t,p,ys,ts,sv,ss,rfl,aB,s3 _ _ hp,ha.mono s3,T,hps,?_,hl,hS,hh,fun A HC eA YC _ aeD frC=>⟨rfl,?_⟩⟩
 ·rcases hsv with h | ⟨l,UL,h1,h2,h3⟩
  ·exact .inl h
  ·exact .inr ⟨l,UL,h1,s3 _ _ h2,h3.mono s3⟩
 ·subst eA;have sC:aL H' HC:=fun c o e=>frC _ _ (s3 _ _ e) (by simp; intro z'; rw[z',fy] at e; cases e)
  refine q A HC sC (W.made YC (Yi T hps hl hS hh) sC fun c hc=>?_);rcases aeD c hc with e | e
  ·rw[e]; exact fy
  ·cases q':H' c with
   | none=>rfl
   | some o=>rw[s3 _ _ q'] at e; cases e
theorem WD.agL(W:WD C a H0 m zs ls H'){i:Nat}{A:Ya}{y:Yd}{lc:Addr}{us:List V}{cs:List (Str×Int)}{Q:VK}{E:XK}(hi:zs[i]?=some (A,y))(hl:(lc,us)∈ls)(ac:aj H' (cs.map U7) us)(G:CmG y.ns cs)(hp:y.pa.length<500)
  (q:∀p mm xs H2,WD C a H0 m (zs.set i ({ A with zZ:=A.zZ++[mm] },La y cs)) ((p,xs)::ls) H2->aj H2 ((Jg y cs).map Ov) xs->dH H' H2->H' p=none->Q (.ref p) H2):Zf C [.ref A.p,.ref lc] H' Q E:=by
 have hz:=dz hi;have YO:=W.yo _ hz;refine⟨A,y,lc,us,cs,rfl,W.ys.at_ _ hz,YO,(W.lo _ hl).2.2,ac,G.nd,G.ni,hp,fun h=>(W.fo _ hz _ h).2.2 _ hl rfl,fun p mm xs H2 fm fp pm Y2 e2 a2 f2=>?_⟩
 have inS:∀b∈[A.ds,A.dt,A.lp],b∈A.own:=fun b hb=>by
  unfold Ya.own;simp only[bN,e_,or_false] at hb;rcases hb with rfl | rfl | rfl <;> simp
 have W2:=W.aeG hi Y2 (Ut YO hp) f2 inS fun c hc=>by
  unfold Ya.own at hc ⊢;simp only[iJ,iU] at hc ⊢;rcases hc with h | h | h
  ·exact .inl (.inl h)
  ·exact .inl (.inr h)
  ·rw[h]; exact .inr fm
 obtain⟨g1,g2,g3,g4⟩:=W.free fp
 have po:∀z∈zs.set i ({ A with zZ:=A.zZ++[mm] },La y cs),p∉z.1.own:=fun z hz' hc=>by
  rcases RT hz' with h | h
  ·exact g4 z h hc
  ·rw[h] at hc;unfold Ya.own at hc;simp only[iJ,iU] at hc;rcases hc with h | h | h
   ·exact g4 _ hz (by unfold Ya.own; exact RP _ h)
   ·exact g4 _ hz (by unfold Ya.own; exact ju _ h)
   ·exact pm h
 exact q p mm xs H2 (W2.mem g1 g2 po e2) a2 (W.kp f2 fun b hb=>.inr ⟨_,hz,inS b hb⟩) fp
theorem WD.comes(W:WD C a H0 m zs ls H'){qa:Addr}{ns:List Str}{Q:VK}{E:XK}(hq:(qa,ns.map V.str)∈ls)(nn:ns.Nodup)(n5:ns.length<=5)(hm:m<=10000000)
  (q:∀p us cs H2,WD C a H0 (m+40) zs ((p,us)::ls) H2->aj H2 (List.map U7 cs) us->CmG ns cs->dH H' H2->H' p=none->Q (.ref p) H2):Zk [.ref a,.ref qa] H' Q E:=
 ⟨a,m,qa,ns,rfl,W.tp,hm,(W.lo _ hq).2.1,(W.lo _ hq).2.2,nn,n5,fun p us cs H2 fp _ e2 a2 G t2 x2=>q p us cs H2 (W.acF fp x2 t2 e2) a2 G (Js W.tp x2) fp⟩
theorem Ny{x:gm}(h:uz x):Jd (gM x)/\hnd (gM x)=x.lo:=by
 have:=h.lo;refine⟨⟨this.1,rfl,?_,rfl,?_⟩,?_⟩
 ·intro y hy;unfold gM at hy;simp at hy;omega
 ·intro y hy;unfold gM at hy;simp at hy;rw[hy]; rfl
 ·unfold hnd gM;simp
theorem v_:∀{ts:List T3},(∀x∈ts,uz x.2.1)->hands (ts.map fun x=>gM x.2.1)=((ts.map (·.2.1)).map gm.lo).sum
 | [],_=>rfl
 | x::ts,h=>by
  have ih:=v_ (ts:=ts) fun z hz=>h z (jb _ hz);have:=(Ny (h x (iK ..))).2;unfold hands at ih ⊢;simp only[iI,Af] at ih ⊢;rw[ih,this]
end
def Ru:Sp:=fun vs H Q _=>∃(v:V)(p:Addr)(h:Int)(r:jz)(cU:List (List Int))(xs:List V),vs=[v,.int h,.ref p]/\At H (ym r) v/\H p=some (.lst xs)/\aj H (cU.map h_) xs/\QF r/\my cU/\∀H',aL H H'->Q (sX (says r h cU)) H'
theorem qF:bf ["_law_row_here","_law_hands_here","_law_newest","_law_what","_law_span","_law_sign","_law_number","_law_step","_law_at","_law_total"] As (aK mY):=(by walk_at "c")
theorem Ak(F:iT K "_law_row_wish" "_law_row_wish" mY f fd)(B:Bi mg):bI P w K mg base gQ (k+1) f fd As Ru:=by
 refine F.ok qF (hbody:=(0:))
 obtain⟨rA,p,hh,r,cU,xs,rfl,a1,h1,a2,hR,hN,q⟩:=h;have ND:=qF.nd;refine⟨_,(aA (cI (pv 0) (bL (K:=K) (n:=5) rfl rfl (aF (aG (i:=3)) (aF (aG (i:=4)) (aF (aG (i:=5)) (aF (aG (i:=6)) (aF (aG (i:=7)) bG))))))) (aA (aW (i:=8) (ik (K:=K) rfl PySem.F.plainAttrs_list PySem.F.slot_list_index PySem.F.type_list_index Pu (bF (ao fu (ao fu (ao fu ak)))) (ao (pv 3) ak))) (aA (aW (i:=9) (pb (dB rfl) B.sum jg (ao (dR (N':=["_law_one","_law_at"]) (js:=[8]) rfl (bM (K:=K) rfl (cR wX (pv 2) dN (dq (pv 4)))) sr.mk1 rfl ⋯ rfl (fun fp s' H'=>(bu aZ (pv 0) (pv 1)))) ak))) (aA (b_ (bc fW (pv 5) fu (bj _)) (aH (bw (aO yI (aO dY (aO bz (pv 9) (aO il (pv 6) (pv 4))) aq) (aO il (pv 6) (pv 4))))) bD) (aA (b_ (bc fW (pv 5) fu (bj _)) (aH (bw (cg (bc pK (pv 9) (aO il (pv 6) (pv 4)) (bj _)) (aO bz (pv 1) (pv 7)) gf))) bD) (aH (bw (cg (bc qI (pv 9) (aO il (pv 6) (pv 4)) (bj _)) (aO bz (pv 1) (pv 7)) gf)))))))),?_⟩
 obtain⟨ra,rfl,g1⟩:=row_shape a1;ext;refine⟨ra,_,rfl,eX.of g1,rfl,?_⟩;ext;have hRi:=hR.is;refine⟨⋯,fun p2 H2 f2 s2 e2=>⟨.inl ⟨rfl,_,cG.of e2⟩,p2,r.w,rfl,e2,rfl,hRi.w,?_⟩⟩
 show iw _ _ _ _ _ _;rw[BR];ext;refine⟨p,_,rfl,cG.of (s2 _ _ h1),fun p3 f3=>?_⟩;rw[vg ∅,rB]
 have s3:=aP f3 (HO.lst (xs.take r.s));have e3:upd H2 p3 (HO.lst (xs.take r.s)) p3=some (.lst (xs.take r.s)):=aB;generalize upd H2 p3 (HO.lst (xs.take r.s))=H3 at s3 e3 ⊢;have a3:aj H3 ((cU.take r.s).map h_) (xs.take r.s):=by rw[Ck]; exact(a2.take r.s).mono (s2.trans s3)
 have hs4:=hRi.s;have htl:(cU.take r.s).length<=4:=by rw[k_]; omega
 refine LCK.of (es:=((cU.take r.s).map fun l=>l.getD (fO r.w) 0).map .int) e3 (by rw[a3.length,bW,bW,bW]) (jE (a_ (by rw[bW,bW]; omega))) (gk _) (fun i y e H' hy he s' R hR'=>?_) (fun acc ys H' s' ac4 hl hA=>?_)
 ·obtain⟨d,q1,q2⟩:=a3.get hy;rw[cM] at q1;obtain⟨l,el,rfl⟩:=JQ.mp q1;obtain⟨c,zs,rfl,k1,k2⟩:=bB (q2.mono s');cases cz k2;rw[cM,cM,el] at he;cases he;have l3:l.length=3:=hN.l l (wB (dz el));have hw:=Bv r.w;show Xx _ _ _ [some _,some (.int _)] H' R;ext;refine Ix.tup k1 (v:=.int (l.getD (fO r.w) 0)) (aV (by rw[cM,dC ∅,iV,dC ∅]; rfl)) ?_
  exact hR' _ _ (aL.refl _) (At.int _)
 ·have hys:=cz hA;rw[hys] at hl;refine⟨acc,_,rfl,.inl hl,?_⟩;have sm:=s2.trans (s3.trans s');have q1:=q H' sm;unfold says at q1;have et:((cU.take r.s).map fun l=>l.getD (fO r.w) 0).sum=vD r.w r.s cU:=rfl;rw[et];have cm:UJ r.n r.s:=.inr ∅
  refine cA (fun c1=>?_) (fun c1=>?_)
  ·have c1':=rC c1;rw[aX c1'] at q1;have h1n:=hRi.e c1';have hpos:0<r.n*(r.s:Int):=Int.mul_pos ∅ ∅
   have hup:r.n*(r.s:Int)<=1000000000000*4:=Int.mul_le_mul hRi.n.2 ∅ ∅ ⋯
   exact⟨cm,cm,⟨hpos,Int.lt_of_le_of_lt hup ⋯⟩,q1⟩
  ·have c1':=wA c1;rw[aQ c1'] at q1;generalize vD r.w r.s cU=tot at q1 ⊢;refine cA (fun c2=>⟨cm,?_⟩) (fun c2=>⟨cm,?_⟩)
   ·have o1:=rC c2;have u1:¬r.g = "under" := by rw[o1]; decide +kernel
    refine cA (fun c3=>?_) (fun c3=>?_)
    ·rw[aX (.inl ⟨o1,rC c3⟩)] at q1; exact q1
    ·rw[aQ (fun z=>by rcases z with z | z; exact wA c3 z.2; exact u1 z.1)] at q1; exact q1
   ·have o1:=wA c2
    have u1:r.g = "under" := by
     have hG3:=hR.g;simp only[bN,e_,or_false] at hG3;rcases hG3 with z | z | z
     ·exact absurd z o1
     ·exact z
     ·exact absurd z c1'
    refine cA (fun c3=>?_) (fun c3=>?_)
    ·rw[aX (.inr ⟨u1,rC c3⟩)] at q1; exact q1
    ·rw[aQ (fun z=>by rcases z with z | z; exact o1 z.1; exact wA c3 z.2)] at q1; exact q1
theorem u_(is:List Int):PyData.hasDict (.list (is.map .int))=false/\PyData.canLay0 (.list (is.map .int))=true/\PyData.depth (.list (is.map .int))<=60:=by
 obtain⟨d1,d2,d3⟩:=C_ is;exact⟨by simpa[PyData.hasDict] using d1,by simpa[PyData.canLay0] using d2,by show PyData.depthAll _+1<=60; rw[d3]; decide⟩
def vN:Option Int->PyData
 | none=>.none
 | some i=>.int i
theorem Gz:∀os:List (Option Int),bH (os.map vN)=true
 | []=>rfl
 | o::os=>by
  show(uy (vN o)&&bH (os.map vN))=true;rw[Gz os]; cases o <;> rfl
theorem Cg{G:Hp}:∀{os:List (Option Int)}{xs:List V},aj G (os.map vN) xs->xs=os.map sX
 | [],xs,h=>aj.iu h
 | o::os,xs,h=>by
  obtain⟨x,r,rfl,h1,h2⟩:=aj.aR h;rw[Cg h2];cases o with
  | none=>unfold vN At at h1; rw[h1]; rfl
  | some i=>unfold vN At at h1; rw[h1]; rfl
theorem Ea{l:List V}{d:V}{P:V->Bool}:((List.range l.length).filter fun i=>P (l.getD i d)).map (fun i=>l.getD i d)=l.filter P:=by
 have e:(List.range l.length).map (fun i=>l.getD i d)=l:=by
  apply Hs
  ·simp
  ·intro i h1 h2;rw[List.getElem_map,List.getElem_range,iV,dC h2]; rfl
 have:=m8 (List.filter P) e;rw[List.filter_map] at this;exact this
theorem uI:∀os:List (Option Int),(os.map sX).filter (fun v=>!decide (v=V.non))=(os.filterMap id).map V.int
 | []=>rfl
 | none::os=>by
  rw[iI,List.filter_cons,Ha];simp only[sX,decide_true,Bool.not_true,Ai,if_false,id];exact uI os
 | some i::os=>by
  rw[iI,List.filter_cons,Ha];have e:(!decide (sX (some i)=V.non))=true:=by simp[sX]
  rw[aX e,uI os]; rfl
def W9(h:Int):List Int->Int
 | []=>h
 | i::_=>i
theorem vO(h:Int)(cU:List (List Int)):∀rs:List jz,gC h cU rs=W9 h ((rs.map fun r=>says r h cU).filterMap id)
 | []=>rfl
 | r::rs=>by
  rw[gC,iI,Ha];cases e:says r h cU with
  | none=>simp only[id]; exact vO h cU rs
  | some i=>rfl
def LR:Sp:=fun vs H Q _=>∃(v:V)(p:Addr)(h:Int)(x:gm)(cU:List (List Int))(xs:List V),vs=[v,.int h,.ref p]/\At H (dh x) v/\H p=some (.lst xs)/\aj H (cU.map h_) xs/\uz x/\my cU/\∀H',aL H H'->Q (.int (mF x.gD x.lo x.hi h cU)) H'
theorem BZ:bf ["_law_post_here","_law_hands_here","_law_newest","_law_wishes","_law_rule","_law_said","_law_some","_law_wanted"] Au (aK yc):=(by walk_at "c")
theorem O_(F:iT K "_law_wish" "_law_wish" yc f fd)(B:Bi mg)(Fw:Ct P w K mg base k "_law_row_wish" As Ru):bI P w K mg base gQ (k+1) f fd Au LR:=by
 refine F.ok BZ (hbody:=(0:))
 obtain⟨pA,p,hh,x,cU,xs,rfl,a1,h1,a2,hx,hN,q⟩:=h;have ND:=BZ.nd;refine⟨_,(aA (aW (i:=3) (bF ak)) (aA (gK PassesOwn.never rfl (tH (K:=K) rfl (bu aZ (pv 0) aq)) (aG (i:=4)) (aA (Eg (i:=5) ND rfl (by walk_at "o") (N':=["_law_row_here","_law_hands_here","_law_newest"]) (js:=[1,2]) rfl (tH (K:=K) rfl (pv 4)) sr.mk2 rfl ⋯ rfl (fun fp s' H'=>(pf Fw hr (ao (pv 0) (ao (pv 1) (ao (pv 2) ak)))))) (aA (j7 (i:=6) ND rfl (by walk_at "o") (nt:=1) (N':=["_law_one"]) (js:=[]) rfl (bM (K:=K) rfl (pv 5)) oA.of (fun fp s' H'=>(aGN ["_law_one"] 0)) (fun fp s' H'=>Fd (bc qj (pv 0) gf (bj _))) (fun fp s' H'=>(pv 0))) (aH (cQ (ik (K:=K) rfl PySem.F.plainAttrs_list PySem.F.slot_list_append PySem.F.type_list_append eN (pv 3) (ao (cg (bc (JW hr.units) (pv 6) (bF ak) (bj _)) (bu aZ (pv 6) aq) (pv 1)) ak))))))) (aA (aW (i:=7) (cg (bc (JW hr.units) (pv 3) (bF ak) (bj _)) (pb (Qo rfl) B.max kZ (ao (pv 3) ak)) (pv 1))) (aH (bw (pb (gw rfl) B.max kZ (ao (bu aZ (bu aZ (pv 0) aq) aq) (ao (pb (cW rfl) B.min iR (ao (bu aZ (bu aZ (pv 0) aq) aq) (ao (pv 7) ak))) ak)))))))),?_⟩
 obtain⟨pa,pb,pc,pd,rfl,p1,p2,p3,p4⟩:=rF a1;ext;refine⟨⋯,fun pw H2 f2 s2 e2=>?_⟩
 obtain⟨_,rs,ep,gr,ar⟩:=bB p4;cases ep;have lrs:rs.length=x.gD.length:=by rw[ar.length,bW]
 rw[Gu];ext;refine Ix.tup (s2 _ _ p1) (v:=.ref pd) rfl ?_;refine TK.of (s2 _ _ gr) (fun i σ H'=>∃(o4 o5 o6 o7:Option V),σ=[some (.ref pa),some (.int hh),some (.ref p),some (.ref pw),o4,o5,o6,o7]/\H' pw=some (.lst (((x.gD.take i).map (gC hh cU)).map V.int))/\SX pw H H')
  ⟨_,_,_,_,rfl,e2,SX.of s2⟩ (fun i σ H' _ ⟨_,_,_,_,_,_,sx⟩=>(SX.same f2 sx) _ _ gr) ?_ ?_
 ·rintro i y σ H3 hy ⟨o4,o5,o6,o7,rfl,e3,sx⟩;have sm:=SX.same f2 sx;obtain⟨d,ed,ad⟩:=ar.get hy;rw[cM] at ed;obtain⟨rl,erl,rfl⟩:=JQ.mp ed;have hG:=hx.r rl (dz erl);obtain⟨ra,zs,rfl,g1,g2⟩:=bB (ad.mono sm);have lz:zs.length=rl.length:=by rw[g2.length,bW]
  ext;refine Xc (es:=(rl.map fun r=>says r hh cU).map vN) (fun R hR=>?_) g1 (by rw[bW,bW,lz]) (jE (a_ (by rw[bW,bW]; have:=hG.hi; omega))) (Gz _) (fun j z e H' hz he s' R hR=>?_) (fun acc ys H4 s4 ac4 h4 hA=>?_)
  ·ext; exact hR
  ·obtain⟨d,q1,q2⟩:=g2.get hz;rw[cM] at q1;obtain⟨r,er,rfl⟩:=JQ.mp q1;rw[cM,cM,er] at he;cases he;show nJ _ _ _ _ [some _,some (.int hh),some (.ref p)] H' R;ext;refine⟨_,p,hh,r,cU,xs,rfl,q2.mono s',(sm.trans s') _ _ h1,a2.mono (sm.trans s'),hG.g r (dz er),hN,fun bO s''=>hR _ _ s'' ?_⟩;show At bO (vN (says r hh cU)) (sX (says r hh cU));cases says r hh cU with
   | none=>exact At.non
   | some i=>exact At.int _
  ·have hys:=Cg hA;have lys:ys.length=rl.length:=by rw[hys,bW,bW]
   have e4:H4 pw=some (.lst (((x.gD.take i).map (gC hh cU)).map V.int)):=s4 _ _ e3;refine Xh (fun j=>!decide (ys.getD j .non=V.non)) (fun j=>ys.getD j .non) (fun R hR=>?_) h4 (by have:=hG.hi; omega) (fun j z H' hz s' R hR=>?_) (fun j z H' hz hk s' R hR=>?_) (fun Ux H5 s5 aiz h5=>?_)
   ·ext; exact hR
   ·ext;have ez:ys.getD j .non=z:=by rw[iV,hz]; rfl
    rw[ez] at hR;exact⟨trivial,hR⟩
   ·ext;have ez:ys.getD j .non=z:=by rw[iV,hz]; rfl
    rw[ez] at hR;exact hR
   ·rw[Ea (P:=fun v=>!decide (v=V.non)),hys,uI] at h5;have hrw:=vO hh cU rl;generalize hI:(rl.map fun r=>says r hh cU).filterMap id=is at h5 hrw;have e5:=s5 _ _ e4;have Vt:=s4.trans s5
    have ap:∀(v:Int)(H6:Hp),v=gC hh cU rl->aL H5 H6->Mj (V.ref pw) [V.int v] H6 (fun _ H1=>∃(o4 o5 o6 o8:Option V),[some (V.ref pa),some (V.int hh),some (V.ref p),some (V.ref pw),some (V.ref ra),some (V.ref acc),some (V.ref Ux),o7]=[some (V.ref pa),some (V.int hh),some (V.ref p),some (V.ref pw),o4,o5,o6,o8]/\H1 pw=some (HO.lst (List.map V.int (List.map (gC hh cU) (List.take (i+1) x.gD))))/\SX pw H H1):=fun v H6 hv s6=>by
     refine⟨pw,_,_,rfl,rfl,s6 _ _ e5,a_ (by rw[bW,bW,k_]; have:=hx.n; omega),?_⟩
     refine⟨_,_,_,_,rfl,?_,(sx.trans (SX.of (Vt.trans s6))).trans SX.upd⟩;rw[take_snoc erl,ig,ig,hv];exact aB
    refine⟨.inl ⟨rfl,_,cG.of e5⟩,⋯,fun p6 H6 f6 s6 e6=>?_⟩
    have z:=u_ is;refine⟨.list (is.map .int),.list [],At.lst (s6 _ _ h5) (bU _),At.lst e6 aj.nil,z.1,rfl,z.2.1,rfl,z.2.2,?_⟩;cases is with
    | nil=>
     have eq:PyData.eqv (.list (([]:List Int).map .int)) (.list [])=true:=rfl;rw[eq,aQ ⋯]
     exact ap hh H6 hrw.symm s6
    | cons i0 is'=>
     have eq:PyData.eqv (.list ((i0::is').map .int)) (.list [])=false:=rfl;rw[eq,aX ⋯]
     exact Ix.lst (s6 _ _ h5) (v:=.int i0) (aV (j:=0) rfl) (ap i0 H6 hrw.symm s6)
 ·rintro σ H3 ⟨o4,o5,o6,o7,rfl,e3,sx⟩;have sm:=SX.same f2 sx;rw[lrs,pH] at e3;ext;refine⟨⋯,fun p4' H4 f4 s4 e4=>?_⟩
  have fin:∀w:Int,w=topOf hh (x.gD.map (gC hh cU))->∀H5,aL H H5->GJ (V.ref pa) (V.int 2) H5 fun x H1=>GJ x (V.int 0) H1 fun x H1=>GJ (V.ref pa) (V.int 2) H1 fun x_1 H1=>GJ x_1 (V.int 1) H1 fun x_2 H1=>∃i j,[x_2,V.int w]=[V.int i,V.int j]/\∃Yj j_1,[x,V.int (if j<i then j else i)]=[V.int Yj,V.int j_1]/\Q (V.int (if j_1>Yj then j_1 else Yj)) H1:=fun w hw H5 s5=>by
   refine Ix.tup (s5 _ _ p1) (v:=.ref pb) rfl (Ix.tup (s5 _ _ p2) (v:=.int x.lo) rfl (Ix.tup (s5 _ _ p1) (v:=.ref pb) rfl (Ix.tup (s5 _ _ p2) (v:=.int x.hi) rfl ⟨_,_,rfl,_,_,rfl,?_⟩)));have h9:=q H5 s5
   have e9:mF x.gD x.lo x.hi hh cU=(if(if w<x.hi then w else x.hi)>x.lo then(if w<x.hi then w else x.hi) else x.lo):=by
    unfold mF;rw[<- hw];have:=hx.lo;simp only
    repeat' split <;> try omega
   rw[e9] at h9;exact h9
  have z:=u_ (x.gD.map (gC hh cU));refine⟨.list ((x.gD.map (gC hh cU)).map .int),.list [],At.lst (s4 _ _ e3) (bU _),At.lst e4 aj.nil,z.1,rfl,z.2.1,rfl,z.2.2,?_⟩;have sm4:=sm.trans s4;have e3':=s4 _ _ e3;cases hW:x.gD.map (gC hh cU) with
  | nil=>
   have eq:PyData.eqv (.list (([]:List Int).map .int)) (.list [])=true:=rfl;rw[eq,aQ ⋯]
   exact fin hh (by rw[hW]; rfl) _ sm4
  | cons w0 ws=>
   have eq:PyData.eqv (.list ((w0::ws).map .int)) (.list [])=false:=rfl;rw[eq,aX ⋯]
   rw[hW] at e3';refine⟨pw,w0,ws,rfl,e3',?_⟩;exact fin _ (by rw[hW]; rfl) _ sm4
end
theorem vZ:∀cs:List Int,(∀c∈cs,0<=c)->bA cs 0=(cs,0)
 | [],_=>rfl
 | c::cs,h=>by
  have hc:=h c iK;rw[bA,vZ cs fun y hy=>h y (jb _ hy)];simp only;have e:(if 0<c then(0:Int) else c)=0:=by split <;> omega
  rw[e,Hg,Hg]
theorem Dc:∀(cs:List Int)(n:Int),
  (∀j:Nat,j<cs.length->0<(bA cs n).1.getD j 0->(∀k:Nat,j<k->k<cs.length->¬0<(bA cs n).1.getD k 0)->bA cs (n+1)=((bA cs n).1.set j ((bA cs n).1.getD j 0-1),(bA cs n).2)) /\
  ((∀k:Nat,k<cs.length->¬0<(bA cs n).1.getD k 0)->bA cs (n+1)=((bA cs n).1,(bA cs n).2+1))
 | [],n=>⟨fun j hj=>by simp at hj,fun _=>rfl⟩
 | c::cs,n=>by
  obtain⟨iA,iB⟩:=Dc cs n;rw[bA,bA];generalize hd:(bA cs n).1=ds at *;generalize hm:(bA cs n).2=m at *;simp only;refine⟨fun j hj hp hq=>?_,fun hq=>?_⟩
  ·cases j with
   | zero=>
    have hB:=iB fun k hk=>by
     have:=hq (k+1) ∅ (by rw[fH]; omega)
     simpa using this
    have hp':0<c-(if m<c then m else c):=by simpa using hp
    rw[hB];simp only[List.getD_cons_zero,List.set_cons_zero];split at hp'
    ·rename_i z;rw[aX z];by_cases z2:m+1<c
     ·rw[aX z2];refine Prod.ext ?_ ?_
      ·simp only; congr 1; omega
      ·simp only; omega
     ·rw[aQ z2];refine Prod.ext ?_ ?_
      ·simp only; congr 1; omega
      ·simp only; omega
    ·omega
   | succ j=>
    have hA:=iA j (by rw[fH] at hj; omega) (by simpa using hp) fun k h1 h2=>by
     have:=hq (k+1) ∅ (by rw[fH]; omega)
     simpa using this
    rw[hA];simp
  ·have hB:=iB fun k hk=>by
    have:=hq (k+1) (by rw[fH]; omega)
    simpa using this
   have h0:=hq 0 (by rw[fH]; omega)
   have h0':¬0<c-(if m<c then m else c):=by simpa using h0
   rw[hB];simp only;split at h0'
   ·omega
   ·rename_i z;rw[aQ z,aQ ∅]
    refine Prod.ext rfl ?_;simp only; omega
theorem M4(kp:Nat->Bool)(f:Nat->V):∀n:Nat,(((List.range n).filter kp).map f=[]/\∀k,k<n->kp k=false) \/
  ∃(j:Nat)(ini:List V),j<n/\kp j=true/\(∀k,j<k->k<n->kp k=false)/\((List.range n).filter kp).map f=ini++[f j]
 | 0=>.inl ⟨rfl,fun k h=>by omega⟩
 | n+1=>by
  have hs:=Di kp f n;cases e:kp n with
  | true=>
   rw[e,aX rfl] at hs;exact .inr ⟨n,_,∅,e,fun k h1 h2=>by omega,hs⟩
  | false=>
   rw[e,aQ ⋯,q_] at hs
   rcases M4 kp f n with⟨h1,h2⟩ | ⟨j,ini,h1,h2,h3,h4⟩
   ·refine .inl ⟨by rw[hs]; exact h1,fun k hk=>?_⟩
    by_cases z:k=n
    ·rw[z]; exact e
    ·exact h2 k ∅
   ·refine .inr ⟨j,ini,∅,h2,fun k k1 k2=>?_,by rw[hs]; exact h4⟩
    by_cases z:k=n
    ·rw[z]; exact e
    ·exact h3 k k1 ∅
theorem Zo{l:List Int}{a:Nat}{v:Int}(h:a<l.length):l.set a v=l.take a++[v]++l.drop (a+1):=by
 rw[List.set_eq_take_append_cons_drop,aX h,GX]; rfl
section
variable{P:AC}{w:World}{K:Frag}{mg:Str->Option AA}{base:Heap}{f:Addr}{fd:FuncData}{k:Nat}
structure StW(st:jk):Prop where
 is:FZ st
 r:0<=st.r
 cn:∀y∈st.cs,0<=y
 sm:st.r+st.cs.sum<=60
 t:0<=st.t
def L_:Sp:=fun vs H Q _=>∃(v u:V)(x:gm)(st:jk)(come fr:Int),vs=[v,u,.int come,.int fr]/\At H (dh x) v/\At H (n_ st) u/\uz x/\StW st/\0<=fr /\
 ∀p u' H',aL H H'->At H' (n_ (dM x (dZ x st come) (oE x st come fr))) u'->H' p=some (.tup [u',.int (eQ x st come),.int (come-cO x st come),.int (oE x st come fr)])->Q (.ref p) H'
theorem Ce:bf ["_law_post_here","_law_stand_here","_law_come","_law_free","_law_pace","_law_room","_law_hands_here","_law_late","_law_every","_law_rests","_law_rules_here","_law_wait","_law_ready","_law_called","_law_since","_law_rest","_law_seen","_law_line","_law_here","_law_done","_law_newest","_law_change","_law_there","_law_k","_law_last"] BA (aK yg):=(by walk_at "c")
theorem Ph(F:iT K "_law_beat" "_law_beat" yg f fd)(B:Bi mg)(Ul:Ct P w K mg base k "_law_wish" Au LR):bI P w K mg base gQ (k+1) f fd BA L_:=by
 refine F.ok Ce (hbody:=(0:))
 obtain⟨pA,sA,x,st,come,fr,rfl,a1,a2,hx,hs,hfr,q⟩:=h;have ND:=Ce.nd;refine⟨_,(aA (cI (pv 0) (bL (K:=K) (n:=7) rfl rfl (aF (aG (i:=4)) (aF (aG (i:=5)) (aF (aG (i:=6)) (aF (aG (i:=7)) (aF (aG (i:=8)) (aF (aG (i:=9)) (aF (aG (i:=10)) bG))))))))) (aA (cI (pv 1) (bL (K:=K) (n:=6) rfl rfl (aF (aG (i:=11)) (aF (aG (i:=12)) (aF (aG (i:=13)) (aF (aG (i:=14)) (aF (aG (i:=15)) (aF (aG (i:=16)) bG)))))))) (aA (cI (bx (ao (aO bz (pv 12) (bu aZ (pv 13) aq)) (ao (aO Eo (pt (vh) B.list jK (ao (cR gY (pv 13) (dq aq) dN) ak)) (bF (ao aq ak))) ak))) (bL (K:=K) (n:=2) rfl rfl (aF (aG (i:=12)) (aF (aG (i:=17)) bG)))) (aA (aW (i:=18) (aO bz (pv 11) (pb (cW rfl) B.min iR (ao (pv 2) (ao (pb (gw rfl) B.max kZ (ao (aO dY (pv 5) (pv 11)) (ao aq ak))) ak))))) (aA (aW (i:=19) (pb (cW rfl) B.min iR (ao (pv 18) (ao (aO il (pv 12) (pv 4)) ak)))) (aA (aW (i:=20) (aO Eo (bF (ao (bx (ao (pv 2) (ao (pv 19) (ao (aO dY (pv 18) (pv 19)) ak)))) ak)) (pt (vh) B.list jK (ao (pv 16) ak)))) (aA (aW (i:=21) aq) (aA (b_ (PW.pt (rE (bc Ss (aO bz (pv 14) aq) (pv 8) (bj _)) (m9 (bc fW (pv 15) aq (bj _))))) (aA (aW (i:=22) (aO bz (pv 12) (pb (dB rfl) B.sum jg (ao (pv 17) ak)))) (aH (aW (i:=21) (pb (cW rfl) B.min iR (ao (aO dY (pf Ul hr (ao (pv 0) (ao (pv 22) (ao (pv 20) ak)))) (pv 22)) (ao (pv 3) ak)))))) bD) (aA (b_ (bc pK (pv 21) aq (bj _)) (aH (cI (aO bz (bu aZ (pv 17) (pv 7)) (pv 21)) (jw (pv 17) (pv 7) set_list))) bD) (aA (gK PassesOwn.never rfl (dJ (by rfl) B.range (ao (pb (gw rfl) B.max kZ (ao aq (ao (aO dY aq (pv 21)) ak))) ak)) (aG (i:=23)) (aA (j7 (i:=24) ND rfl (by walk_at "o") (nt:=1) (N':=["_law_place","_law_line"]) (js:=[17]) rfl (dJ (by rfl) B.range (ao aq ak)) oA.of (fun fp s' H'=>(aGN ["_law_place","_law_line"] 0)) (fun fp s' H'=>Fd (bc pK (bu aZ (pv 1) (pv 0)) aq (bj _))) (fun fp s' H'=>(pv 0))) (aH (b_ (bc (JW hr.units) (pv 24) (bF ak) (bj _)) (aH (cI (aO dY (bu aZ (pv 17) (bu aZ (pv 24) (R7 Jo aq))) aq) (jw (pv 17) (bu aZ (pv 24) (R7 Jo aq)) set_list))) (aH (aW (i:=12) (aO dY (pv 12) aq))))))) (aA (aW (i:=15) (cg (bc Cy (pv 21) aq (bj _)) (bu aZ (pv 9) (pt (vo) B.int FP (ao (eG qI (pv 21) aq (bj _)) ak))) (pb (gw rfl) B.max kZ (ao aq (ao (aO dY (pv 15) aq) ak))))) (aA (aW (i:=14) (cg (bc Ss (aO bz (pv 14) aq) (pv 8) (bj _)) aq (aO bz (pv 14) aq))) (aH (bw (bx (ao (bx (ao (aO dY (pv 18) (pv 19)) (ao (pv 12) (ao (pt (jf) B.tuple gW (ao (pv 17) ak)) (ao (pv 14) (ao (pv 15) (ao (pt (jf) B.tuple gW (ao (cR wX (pv 20) dN (dq aq)) ak)) ak))))))) (ao (pv 19) (ao (aO dY (aO bz (pv 11) (pv 2)) (pv 18)) (ao (pv 21) ak))))))))))))))))))),?_⟩
 obtain⟨pa,pb,pc,pd,rfl,p1,p2,p3,p4⟩:=rF a1;obtain⟨sa,sb,sc,rfl,g1,g2,g3⟩:=qd a2;simp only[xO,sO 15,sO 14];ext;refine⟨pa,_,rfl,eX.of p1,rfl,?_⟩;ext;refine⟨sa,_,rfl,eX.of g1,rfl,?_⟩;ext;have hc5:=hs.is.c;have hxp:=hx.p
 have gc0:zV (st.cs.map V.int) 0=some (.int (st.cs.getD 0 0)):=by
  obtain⟨y0,y1,y2,y3,y4,ey⟩:=WL hc5;rw[ey]; rfl
 refine Ix.tup g2 (v:=.int (st.cs.getD 0 0)) gc0 ⟨_,_,rfl,rfl,sb,_,rfl,g2,fun q1 H1 s1 e1=>⟨q1,_,rfl,e1,fun l2 f2=>⟨⋯,fun q3 H3 f3 s3 e3=>?_⟩⟩⟩
 rw[pX ⋯] at s3
 have s2:=aP f2 (HO.lst ((st.cs.map V.int).drop (Int.toNat 1)));refine⟨l2,q3,_,_,rfl,rfl,s3 _ _ aB,e3,by simp[hc5]; decide,fun pl fl=>?_⟩
 have pF:aL H H3:=s1.trans (s2.trans s3);have fl':H pl=none:=pF.free fl;have el:(st.cs.map V.int).drop (Int.toNat 1)++[V.int 0]=(st.cs.drop 1++[0]).map V.int:=by simp
 rw[el];have s4:aL H (upd H3 pl (HO.lst ((st.cs.drop 1++[0]).map V.int))):=pF.trans (aP fl _);have e4:upd H3 pl (HO.lst ((st.cs.drop 1++[0]).map V.int)) pl=some (.lst ((st.cs.drop 1++[0]).map V.int)):=aB;generalize upd H3 pl (HO.lst ((st.cs.drop 1++[0]).map V.int))=H4 at s4 e4 ⊢;refine⟨⋯,fun q5 H5 f5 s5 e5=>⟨q5,_,rfl,eX.of e5,rfl,?_⟩⟩
 have s45:=s4.trans s5;have e45:=s5 _ _ e4;clear e1 e3 f2 f3 s1 s2 s3 pF e4 el;ext;refine⟨.inr ∅,?_⟩
 have ert:(st.r+st.cs.getD 0 0)=cZ st:=rfl;have etk:(if(if 0>x.m-st.w then 0 else x.m-st.w)<come then(if 0>x.m-st.w then 0 else x.m-st.w) else come)=cO x st come:=rfl
 rw[ert,etk];have edn:(if cZ st*x.p<st.w+cO x st come then cZ st*x.p else st.w+cO x st come)=eQ x st come:=rfl
 rw[edn];obtain⟨_,us,esc,gu,au⟩:=bB g3;cases esc;have lus:us.length=3:=by rw[au.length,bW,hs.is.u]
 refine⟨⋯,fun q6 H6 f6 s6 e6=>⟨⋯,fun q7 H7 f7 s7 e7=>Wz e7 ((s45.trans (s6.trans s7)) _ _ gu) (by rw[lus]; exact(by decide:4<=sizeLine)) fun pn H8 s8 e8=>?_⟩⟩
 have s58:=s6.trans (s7.trans s8);have s48:=s45.trans s58;have e48:=s58 _ _ e45
 replace e8:H8 pn=some (.lst (V.ref q6::us)):=e8
 have aN:aj H8 ((du x st come).map h_) (V.ref q6::us):=aj.cons (At.tup ((s7.trans s8) _ _ e6) (bU [come,eQ x st come,st.w+cO x st come-eQ x st come])) (au.mono s48)
 have hN:my (du x st come):=⟨by show st.us.length+1=4; rw[hs.is.u],fun y hy=>by
  rcases bN.mp hy with z | z
  ·rw[z]; rfl
  ·exact hs.is.l y z⟩
 have npl:pn≠pl:=fun z=>by
  rw[z,e48] at e8;have:=m8 List.length (HO.lst.inj (Option.some.inj e8));rw[bW,fH,lus] at this;simp[hc5] at this
 clear e6 e7 f6 f7 s6 s7 s8 e5 f5 s5 e45;have hml:(st.cs.drop 1++[0]).length=5:=by simp[hc5]
 have hmn:∀y∈st.cs.drop 1++[0],0<=y:=H_ hs.cn;have hrn:=GF hc5 hs.r hs.cn;refine gR.of (fun σ' H'=>aL H8 H'/\∃o:Option V,σ'=[some (V.ref pa),some (V.ref sa),some (V.int come),some (V.int fr),some (V.int x.p),some (V.int x.m),some (V.ref pb),some (V.int ↑x.a),some (V.int x.e),some (V.ref pc),some (V.ref pd),some (V.int st.w),some (V.int (cZ st)),some (V.ref sb),some (V.int st.s),some (V.int st.t),some (V.ref sc),some (V.ref pl),some (V.int (st.w+cO x st come)),some (V.int (eQ x st come)),some (V.ref pn),some (V.int (oE x st come fr)),o,none,none]) ?_ ?_
 rotate_left 1
 ·intro N z_;ext;by_cases c1:x.e<=st.s+1
  ·rw[aX (jF c1)];by_cases c2:st.t=0
   ·rw[aX (jF c2)];refine⟨pl,_,rfl,.inl e48,.ref pa,pn,_,x,du x st come,_,rfl,a1.mono s48,e8,aN,hx,hN,fun H9 s9=>⟨_,_,rfl,rfl,z_ _ _ ⟨s9,some (V.int (cZ st+(st.cs.drop 1++[0]).sum)),?_⟩⟩⟩
    have e:oE x st come fr=(if fr<mF x.gD x.lo x.hi (cZ st+(st.cs.drop 1++[0]).sum) (du x st come)-(cZ st+(st.cs.drop 1++[0]).sum) then fr else mF x.gD x.lo x.hi (cZ st+(st.cs.drop 1++[0]).sum) (du x st come)-(cZ st+(st.cs.drop 1++[0]).sum)):=by
     have hl:lX x.e st.s st.t=true:=by unfold lX; rw[aQ ∅]; exact jF c2
     unfold oE;rw[aX hl]; rfl
    rw[e]
   ·rw[aQ (by simpa using c2)]
    have e:oE x st come fr=0:=by
     have hl:lX x.e st.s st.t=false:=by unfold lX; rw[aQ ∅]; exact mJ c2
     unfold oE;rw[hl,aQ ⋯]
    rw[e] at z_;exact z_ _ _ ⟨aL.refl _,_,rfl⟩
  ·rw[aQ (by simpa using c1)]
   have e:oE x st come fr=0:=by
    have hl:lX x.e st.s st.t=false:=by unfold lX; rw[aX ∅]
    unfold oE;rw[hl,aQ ⋯]
   rw[e] at z_;exact z_ _ _ ⟨aL.refl _,_,rfl⟩
 rintro σ' H9 ⟨s89,o,rfl⟩
 have hbd:0<=st.r+st.cs.sum+oE x st come fr:=by
  have h0:=xH _ hs.cn;have h1:=hs.r;unfold oE;rw[jr hc5];split
  ·unfold xm
   have h2:0<=mF x.gD x.lo x.hi (st.r+st.cs.sum) (du x st come):=by
    have h3:=hx.lo;unfold mF;simp only
    repeat' split <;> try omega
   split <;> omega
  ·omega
 generalize oE x st come fr=ch at q hbd ⊢;have e9:=s89 _ _ e48;have s49:=s48.trans s89;refine gR.of (fun σ' H'=>σ'=[some (V.ref pa),some (V.ref sa),some (V.int come),some (V.int fr),some (V.int x.p),some (V.int x.m),some (V.ref pb),some (V.int ↑x.a),some (V.int x.e),some (V.ref pc),some (V.ref pd),some (V.int st.w),some (V.int (cZ st)),some (V.ref sb),some (V.int st.s),some (V.int st.t),some (V.ref sc),some (V.ref pl),some (V.int (st.w+cO x st come)),some (V.int (eQ x st come)),some (V.ref pn),some (V.int ch),o,none,none]/\H' pl=some (.lst ((if 0<ch then(st.cs.drop 1++[0]).set x.a ((st.cs.drop 1++[0]).getD x.a 0+ch) else st.cs.drop 1++[0]).map V.int))/\SX pl H H'/\SX pl H9 H') ?_ ?_
 rotate_left 1
 ·intro N z_;ext;have ha:=hx.a;by_cases c1:0<ch
  ·rw[aX (jF c1)];rw[aX c1] at z_;refine Ix.lst e9 (v:=.int ((st.cs.drop 1++[0]).getD x.a 0)) (aV (by rw[cM,dC ∅,iV,dC ∅]; rfl)) ⟨_,_,rfl,rfl,pl,_,_,x.a,rfl,rfl,e9,Fb (by rw[bW]; omega),?_⟩
   refine z_ _ _ ⟨rfl,?_,(SX.of s49).trans SX.upd,SX.upd⟩;rw[aB,vU]
  ·rw[aQ (by simpa using c1)]
   rw[aQ c1] at z_;exact z_ _ _ ⟨rfl,e9,SX.of s49,SX.refl _ _⟩
 rintro σ' Aa ⟨rfl,e10,x10,y10⟩
 obtain⟨hm,hm0,hmS,hmE⟩:∃hm:Nat->List Int×Int,hm 0=(if 0<ch then(st.cs.drop 1++[0]).set x.a ((st.cs.drop 1++[0]).getD x.a 0+ch) else st.cs.drop 1++[0],0)/\(¬0<ch->∀i:Nat,hm i=bA (st.cs.drop 1++[0]) i)/\(0<ch->∀i,hm i=hm 0):=by
  by_cases c1:0<ch
  ·exact⟨fun _=>((st.cs.drop 1++[0]).set x.a ((st.cs.drop 1++[0]).getD x.a 0+ch),0),by rw[aX c1],fun z=>absurd c1 z,fun _ _=>rfl⟩
  ·exact⟨fun i=>bA (st.cs.drop 1++[0]) i,by rw[aQ c1]; exact vZ _ hmn,fun _ _=>rfl,fun z=>absurd z c1⟩
 obtain⟨n,hn,akp⟩:∃n:Nat,(if 0-ch>0 then 0-ch else 0)=(n:Int)/\n<=120:=⟨(if 0-ch>0 then 0-ch else 0).toNat,by split <;> omega,by have:=hs.sm; split <;> omega⟩
 have af9:Aa pn=some (.lst (V.ref q6::us)):=y10.get npl (s89 _ _ e8);have agQ:aj (hid pl Aa) ((du x st come).map h_) (V.ref q6::us):=(aj.Ay e9 _ _ (xx _) (aN.mono s89)).mono y10;ext;refine Yn (n:=n) (fun R hR=>?_) ∅ (fun i σ H'=>∃(o1 o2:Option V),σ=[some (V.ref pa),some (V.ref sa),some (V.int come),some (V.int fr),some (V.int x.p),some (V.int x.m),some (V.ref pb),some (V.int ↑x.a),some (V.int x.e),some (V.ref pc),some (V.ref pd),some (V.int st.w),some (V.int (cZ st-(hm i).2)),some (V.ref sb),some (V.int st.s),some (V.int st.t),some (V.ref sc),some (V.ref pl),some (V.int (st.w+cO x st come)),some (V.int (eQ x st come)),some (V.ref pn),some (V.int ch),o,o1,o2]/\H' pl=some (.lst ((hm i).1.map V.int))/\SX pl Aa H') ⟨_,_,by rw[hm0,Hg],by rw[hm0]; exact e10,SX.refl _ _⟩ ?_ ?_
 ·ext;rw[hn]; exact hR
 ·rintro i σ Gd hi ⟨o1,o2,rfl,QQ,y11⟩;have hneg:¬0<ch:=fun z=>by rw[aQ ∅] at hn; omega
  rw[hmS hneg i] at QQ ⊢;rw[hmS hneg (i+1)];obtain⟨nA,nB⟩:=Dc (st.cs.drop 1++[0]) (i:Int);have hgl:(bA (st.cs.drop 1++[0]) (i:Int)).1.length=5:=by rw[nD]; exact hml
  rw[hml] at nA nB;have ei1:((i+1:Nat):Int)=(i:Int)+1:=by omega
  rw[ei1];generalize hG:bA (st.cs.drop 1++[0]) (i:Int)=G at QQ nA nB hgl ⊢;obtain⟨L,m⟩:=G;simp only at QQ nA nB hgl ⊢;ext;refine Xg (n:=5) (fun j=>decide (0<L.getD j 0)) (fun j=>V.int (0+(j:Nat))) (fun R hR=>hR) ⋯ (fun j H' hj s' R hR=>?_) (fun j H' hj hk s' R hR=>?_) (fun acc H12 s12 ac4 h12=>?_)
  ·show Ls _ [some _,some (.ref pl)] H' R;ext;rw[yw];refine Ix.lst (s' _ _ QQ) (v:=.int (L.getD j 0)) (aV (by rw[cM,dC ∅,iV,dC ∅]; rfl)) ?_
   ext;exact hR
  ·show qO 0 [some _,some (.ref pl)] H' R;ext;exact hR
  ·have Qh:=s12 _ _ QQ;have eI:((List.range 5).filter fun j=>decide (0<L.getD j 0)).map (fun j=>V.int (0+(j:Nat)))=(((List.range 5).filter fun j=>decide (0<L.getD j 0)).map (fun j=>(0:Int)+(j:Nat))).map V.int:=by rw[vR]; rfl
   have z:=u_ (((List.range 5).filter fun j=>decide (0<L.getD j 0)).map (fun j=>(0:Int)+(j:Nat)));refine⟨⋯,fun p13 H13 f13 pF Nz=>⟨.list ((((List.range 5).filter fun j=>decide (0<L.getD j 0)).map (fun j=>(0:Int)+(j:Nat))).map .int),.list [],At.lst (by rw[<- eI]; exact pF _ _ h12) (bU _),At.lst Nz aj.nil,z.1,rfl,z.2.1,rfl,z.2.2,?_⟩⟩
   have acb:=s12.trans pF;have aaF:=pF _ _ Qh;have h13:=pF _ _ h12;rcases M4 (fun j=>decide (0<L.getD j 0)) (fun j=>V.int (0+(j:Nat))) 5 with⟨l1,l2⟩ | ⟨j,ini,j5,hj,hjk,hl⟩
   ·have en:((List.range 5).filter fun j=>decide (0<L.getD j 0)).map (fun j=>(0:Int)+(j:Nat))=[]:=by
     have:=List.map_eq_nil_iff.mp l1;rw[this]; rfl
    rw[en];have eq:PyData.eqv (.list (([]:List Int).map .int)) (.list [])=true:=rfl;rw[eq,aQ ⋯]
    have hB:=nB fun k hk=>by have:=l2 k hk; simpa using this
    rw[hB,show cZ st-m-1=cZ st-(m+1) by omega]
    exact⟨_,_,rfl,aaF,y11.trans (SX.of acb)⟩
   ·have hA:=nA j j5 (by simpa using hj) fun k k1 k2=>by have:=hjk k k1 k2; simpa using this
    rw[hA]
    have eq:PyData.eqv (.list ((((List.range 5).filter fun j=>decide (0<L.getD j 0)).map (fun j=>(0:Int)+(j:Nat))).map .int)) (.list [])=false:=by
     cases hz:((List.range 5).filter fun j=>decide (0<L.getD j 0)).map (fun j=>(0:Int)+(j:Nat)) with
     | nil=>
      rw[hz] at eI;rw[eI] at hl;simp at hl
     | cons a b=>rfl
    rw[eq,aX ⋯]
    rw[hl] at h13;rw[yw] at h13;refine Ix.lst h13 (v:=.int (j:Nat)) (Jb _ _) (Ix.lst aaF (v:=.int (L.getD j 0)) (aV (by rw[cM,dC ∅,iV,dC ∅]; rfl)) ⟨_,_,rfl,rfl,Ix.lst h13 (v:=.int (j:Nat)) (Jb _ _) ⟨pl,_,_,j,rfl,rfl,aaF,Fb (by rw[bW]; omega),?_⟩⟩)
    refine⟨_,_,rfl,?_,(y11.trans (SX.of acb)).trans SX.upd⟩;rw[aB,vU]
 rintro σ Gd ⟨o1,o2,rfl,QQ,y11⟩;dsimp only;have hfin:(dM x (dZ x st come) ch).r=cZ st-(hm n).2/\(dM x (dZ x st come) ch).cs=(hm n).1/\(dM x (dZ x st come) ch).t=(if ch≠0 then(if ch<0 then x.d else x.u) else(if st.t-1>0 then st.t-1 else 0)) /\
   (dM x (dZ x st come) ch).w=st.w+cO x st come-eQ x st come/\(dM x (dZ x st come) ch).s=uG x.e st.s/\(dM x (dZ x st come) ch).us=(du x st come).take 3:=by
  have hW:=xn (x:=x) (st:=dZ x st come) (ch:=ch) hx.a hrn hml hmn (by show 0<=cZ st+(st.cs.drop 1++[0]).sum+ch; rw[jr hc5]; exact hbd)
  refine⟨?_,?_,?_,hW.w,hW.s,hW.u⟩
  ·unfold dM;by_cases c0:ch=0
   ·rw[aX c0];rw[c0] at hn;have:n=0:=by simpa using hn.symm
    rw[this,hm0,Hg]; rfl
   ·rw[aQ c0];by_cases c1:0<ch
    ·rw[aX c1,hmE c1 n,hm0,Hg]; rfl
    ·rw[aQ c1,hmS c1 n];rw[aX ∅] at hn
     rw[show -ch=(n:Int) by omega]; rfl
  ·unfold dM;by_cases c0:ch=0
   ·rw[aX c0];have hn':=hn;rw[c0] at hn';have:n=0:=by simpa using hn'.symm
    rw[this,hm0,aQ ∅]; rfl
   ·rw[aQ c0];by_cases c1:0<ch
    ·rw[aX c1,hmE c1 n,hm0,aX c1];exact(Zo (l:=st.cs.drop 1++[0]) (by rw[hml]; have:=hx.a; omega)).symm
    ·rw[aQ c1,hmS c1 n];rw[aX ∅] at hn
     rw[show -ch=(n:Int) by omega]; rfl
  ·rw[hW.t];show(if ch=0 then(if 0>st.t-1 then 0 else st.t-1) else if 0<ch then x.u else x.d)=_
   repeat' split <;> try omega
 obtain⟨k1,k2,k3,k4,k5,k6⟩:=hfin;generalize hnx:dM x (dZ x st come) ch=nx at q k1 k2 k3 k4 k5 k6;rw[<- k1];rw[<- k2] at QQ;have x11:aL H Gd:=SX.same fl' (x10.trans y11);refine gR.of (fun σ' H'=>Gd=H'/\σ'=[some (V.ref pa),some (V.ref sa),some (V.int come),some (V.int fr),some (V.int x.p),some (V.int x.m),some (V.ref pb),some (V.int ↑x.a),some (V.int x.e),some (V.ref pc),some (V.ref pd),some (V.int st.w),some (V.int nx.r),some (V.ref sb),some (V.int st.s),some (V.int nx.t),some (V.ref sc),some (V.ref pl),some (V.int (st.w+cO x st come)),some (V.int (eQ x st come)),some (V.ref pn),some (V.int ch),o,o1,o2]) ?_ ?_
 rotate_left 1
 ·intro N z_;ext;by_cases c1:ch=0
  ·rw[aQ (by simpa using c1)]
   rw[aQ (show ¬ch≠0 from fun z=>z c1)] at k3;rw[k3] at z_;exact z_ _ _ ⟨rfl,rfl⟩
  ·rw[aX (by simpa using c1)]
   rw[aX c1] at k3;by_cases c2:ch<0
   ·rw[aX (jF c2)];rw[aX c2] at k3;rw[k3] at z_;exact Ix.tup (x11 _ _ p3) (v:=.int x.d) rfl (z_ _ _ ⟨rfl,rfl⟩)
   ·rw[aQ (by simpa using c2)]
    rw[aQ c2] at k3;rw[k3] at z_;exact Ix.tup (x11 _ _ p3) (v:=.int x.u) rfl (z_ _ _ ⟨rfl,rfl⟩)
 rintro σ' H' ⟨rfl,rfl⟩;refine gR.of (fun σ' H'=>Gd=H'/\σ'=[some (V.ref pa),some (V.ref sa),some (V.int come),some (V.int fr),some (V.int x.p),some (V.int x.m),some (V.ref pb),some (V.int ↑x.a),some (V.int x.e),some (V.ref pc),some (V.ref pd),some (V.int st.w),some (V.int nx.r),some (V.ref sb),some (V.int nx.s),some (V.int nx.t),some (V.ref sc),some (V.ref pl),some (V.int (st.w+cO x st come)),some (V.int (eQ x st come)),some (V.ref pn),some (V.int ch),o,o1,o2]) ?_ ?_
 rotate_left 1
 ·intro N z_;ext;unfold uG at k5;by_cases c1:x.e<=st.s+1
  ·rw[aX (jF c1)];rw[aQ ∅] at k5
   rw[k5] at z_;exact z_ _ _ ⟨rfl,rfl⟩
  ·rw[aQ (by simpa using c1)]
   rw[aX ∅] at k5
   rw[k5] at z_;exact z_ _ _ ⟨rfl,rfl⟩
 rintro σ' H' ⟨rfl,rfl⟩;ext;have af8:Gd pn=some (.lst (V.ref q6::us)):=y11.get npl af9;have agP:aj Gd ((du x st come).map h_) (V.ref q6::us):=(agQ.mono y11).mono jH;refine⟨pl,_,rfl,QQ,fun l12 f12=>?_⟩;have s12:=aP f12 (HO.tup (nx.cs.map V.int));have Qh:upd Gd l12 (HO.tup (nx.cs.map V.int)) l12=some (.tup (nx.cs.map V.int)):=aB;generalize upd Gd l12 (HO.tup (nx.cs.map V.int))=H12 at s12 Qh ⊢;refine⟨pn,_,rfl,cG.of (s12 _ _ af8),fun p13 f13=>?_⟩;rw[vg ⋯]
 have pF:=aP f13 (HO.lst ((V.ref q6::us).take (Int.toNat 3)));have Nz:upd H12 p13 (HO.lst ((V.ref q6::us).take (Int.toNat 3))) p13=some (.lst ((V.ref q6::us).take (Int.toNat 3))):=aB;generalize upd H12 p13 (HO.lst ((V.ref q6::us).take (Int.toNat 3)))=H13 at pF Nz ⊢;refine⟨p13,_,rfl,Nz,fun l14 f14=>?_⟩;have Vu:=aP f14 (HO.tup ((V.ref q6::us).take (Int.toNat 3)));have Ys:upd H13 l14 (HO.tup ((V.ref q6::us).take (Int.toNat 3))) l14=some (.tup ((V.ref q6::us).take (Int.toNat 3))):=aB;generalize upd H13 l14 (HO.tup ((V.ref q6::us).take (Int.toNat 3)))=H14 at Vu Ys ⊢;refine⟨⋯,fun p15 YG f15 JG QM=>⟨⋯,fun p16 H16 f16 Mi e16=>?_⟩⟩
 have X6:aL Gd H16:=s12.trans (pF.trans (Vu.trans (JG.trans Mi)))
 have agE:H16 p16=some (.tup [.ref p15,.int (eQ x st come),.int (come-cO x st come),.int ch]):=by
  rw[e16,show st.w+come-(st.w+cO x st come)=come-cO x st come by omega]
 refine q p16 (.ref p15) H16 (x11.trans X6) ?_ agE
 have aU:aj H16 (nx.us.map h_) ((V.ref q6::us).take (Int.toNat 3)):=by
  rw[k6,Ck];exact(agP.take 3).mono X6
 rw[<- k4] at QM;exact At.tup (Mi _ _ QM) (aj.cons (At.int _) (aj.cons (At.int _) (aj.cons (At.tup ((pF.trans (Vu.trans (JG.trans Mi))) _ _ Qh) (bU _)) (aj.cons (At.int _) (aj.cons (At.int _) (aj.cons (At.tup ((JG.trans Mi) _ _ Ys) aU) aj.nil))))))
structure Md1(H:Hp)(w:Addr)(n:Str)(x:gm)(o:Option Str)(st:jk)(t:List Int):Prop where
 ex:∃pv sv cv,H w=some (.lst [.str n,pv,lD o,sv,cv])/\At H (dh x) pv/\At H (n_ st) sv/\At H (h_ t) cv
theorem Md1.kp{H H':Hp}{w:Addr}{n:Str}{x:gm}{o:Option Str}{st:jk}{t:List Int}(h:Md1 H w n x o st t)(k:dH H H')(e:∀xs,H w=some (.lst xs)->H' w=some (.lst xs)):Md1 H' w n x o st t:=by
 obtain⟨pv,sv,cv,h1,h2,h3,h4⟩:=h.ex;exact⟨⟨pv,sv,cv,e _ h1,At.kp k _ _ (g8 x) h2,At.kp k _ _ (jD st) h3,At.kp k _ _ (sy t) h4⟩⟩
structure mz(H:Hp)(ws:List Addr)(y:Yd):Prop where
 l:ws.length=y.ns.length
 nd:ws.Nodup
 g:∀(i:Nat) w n x o st t,ws[i]?=some w->y.ns[i]?=some n->y.ps[i]?=some x->y.os[i]?=some o->y.ss[i]?=some st->y.ts[i]?=some t->Md1 H w n x o st t
theorem mz.kp{H H':Hp}{ws:List Addr}{y:Yd}(h:mz H ws y)(k:dH H H')(e:∀w∈ws,∀xs,H w=some (.lst xs)->H' w=some (.lst xs)):mz H' ws y:=
 ⟨h.l,h.nd,fun i w n x o st t h1 h2 h3 h4 h5 h6=>(h.g i w n x o st t h1 h2 h3 h4 h5 h6).kp k (e w (dz h1))⟩
theorem mz.mono{H H':Hp}{ws:List Addr}{y:Yd}(h:mz H ws y)(s:aL H H'):mz H' ws y:=h.kp s.kp fun w _ xs e=>s _ _ e
structure YdL(y:Yd):Prop where
 lp:y.ps.length=y.ns.length
 lo:y.os.length=y.ns.length
 ls:y.ss.length=y.ns.length
 lt:y.ts.length=y.ns.length
theorem fB.L{y:Yd}(h:fB y):YdL y:=⟨h.lp,h.lo,h.ls,h.lt⟩
theorem mz.get{H:Hp}{ws:List Addr}{y:Yd}(h:mz H ws y)(L:YdL y){i:Nat}(hi:i<y.ns.length):∃w n x o st t,ws[i]?=some w/\y.ns[i]?=some n/\y.ps[i]?=some x/\y.os[i]?=some o/\y.ss[i]?=some st/\y.ts[i]?=some t/\Md1 H w n x o st t:=by
 have h1:=h.l;have h2:=L.lp;have h3:=L.lo;have h4:=L.ls;have h5:=L.lt;have e0:ws[i]?=some ws[i]:=dC ∅
 have e1:y.ns[i]?=some y.ns[i]:=dC hi;have e2:y.ps[i]?=some y.ps[i]:=dC ∅
 have e3:y.os[i]?=some y.os[i]:=dC ∅
 have e4:y.ss[i]?=some y.ss[i]:=dC ∅
 have e5:y.ts[i]?=some y.ts[i]:=dC ∅
 exact⟨_,_,_,_,_,_,e0,e1,e2,e3,e4,e5,h.g i _ _ _ _ _ _ e0 e1 e2 e3 e4 e5⟩
def Zj:Sp:=fun vs H Q _=>∃(m:Addr)(ws:List Addr)(y:Yd),vs=[.ref m]/\H m=some (.lst (ws.map V.ref))/\mz H ws y/\YdL y/\y.ns.length<=5/\∀H',aL H H'->Q (.int (hands y.ss)) H'
theorem xU:bf BB BB (aK uN):=(by walk_at "c")
theorem J4(F:iT K "_law_hands" "_law_hands" uN f fd)(B:Bi mg):bI P w K mg base gQ (k+1) f fd BB Zj:=by
 refine F.ok xU (hbody:=(0:))
 obtain⟨m,ws,y,rfl,em,M,L,n5,q⟩:=h;have ND:=xU.nd;refine⟨_,(aH (bw (pb (dB rfl) B.sum jg (ao (dR (N':=["_law_spot"]) (js:=[]) rfl (bM (K:=K) rfl (pv 0)) sr.Wy rfl ⋯ rfl (fun fp s' H'=>(aO bz (bu aZ (bu aZ (pv 0) aq) aq) (pb (dB rfl) B.sum jg (ao (bu aZ (bu aZ (pv 0) aq) aq) ak))))) ak)))),?_⟩
 ext;have h1:=M.l;have h4:=L.ls;refine lF ((y.ss.map hnd).map .int) (fun R hR=>by ext; exact hR) em (by simp only[bW]; omega) (by rw[bW]; omega) (gk _) (fun i x d H' hx hd s' R hR=>?_) fun acc vs H' f' s' e' a'=>?_
 ·rw[cM] at hx;cases ew:ws[i]? with
  | none=>rw[ew] at hx; cases hx
  | some w0=>
  rw[ew] at hx;cases hx;have hi:i<ws.length:=(iY.mp ew).1;obtain⟨w',n,x,o,st,t,g0,_,_,_,g4,_,D⟩:=(M.mono s').get L (i:=i) ∅
  rw[ew] at g0;cases g0;rw[cM,cM,g4] at hd;cases hd;obtain⟨pv,sv,cv,d1,d2,d3,d4⟩:=D.ex;obtain⟨a0,b0,c0,rfl,k1,k2,_⟩:=qd d3;ext;refine Ix.lst d1 (aV (j:=3) rfl) (Ix.tup k1 (aV (j:=1) rfl) (Ix.lst d1 (aV (j:=3) rfl) (Ix.tup k1 (aV (j:=2) rfl) ⟨b0,st.cs,rfl,.inr k2,_,_,rfl,rfl,hR _ _ (aL.refl _) (At.int _)⟩)))
 ·have:=cz a';subst this;exact⟨acc,_,rfl,.inl e',q _ s'⟩
def ab4:Sp:=fun vs H Q _=>∃(rl:Addr)(us:List V)(ts:List T3)(sv:V)(ss:List jk)(tot:Int),vs=[.ref rl,sv]/\H rl=some (.lst us)/\aj H (ts.map Ju) us/\((sv=.non/\ss=ts.map fun x=>gM x.2.1)\/∃l zs,sv=.ref l/\H l=some (.lst zs)/\aj H (ss.map n_) zs)/\ss.length=ts.length/\ts.length<=5 /\
 ∀p ws H',H p=none->p∉ws->(∀w∈ws,H w=none)->aL H H'->H' p=some (.lst (ws.map V.ref))->mz H' ws (Ib tot ts ss)->Q (.ref p) H'
theorem xW:bf ["_law_rows","_law_stands_here","_law_model","_law_k","_law_name","_law_post_here","_law_onward","_law_stand_here"] BC (aK uP):=(by walk_at "c")
theorem J6(F:iT K "_law_begun" "_law_begun" uP f fd)(B:Bi mg):bI P w K mg base gQ (k+1) f fd BC ab4:=by
 refine F.ok xW (hbody:=(0:))
 obtain⟨rl,us,ts,sv,ss,tot,rfl,el,au,hsv,ls,l5,q⟩:=h;have ND:=xW.nd;refine⟨_,(aA (aW (i:=2) (bF ak)) (aA (gK PassesOwn.never rfl (Ej (K:=K) rfl B.enumerate (ao (pv 0) ak)) (bL (K:=K) (n:=2) rfl rfl (aF (aG (i:=3)) (aF (bL (K:=K) (n:=3) rfl rfl (aF (aG (i:=4)) (aF (aG (i:=5)) (aF (aG (i:=6)) bG)))) bG))) (aA (aW (i:=7) (bx (ao aq (ao (bu aZ (bu aZ (pv 5) aq) aq) (ao (bx (ao aq (ao aq (ao aq (ao aq (ao aq ak)))))) (ao aq (ao aq (ao (bx (ao (bx (ao aq (ao aq (ao aq ak)))) (ao (bx (ao aq (ao aq (ao aq ak)))) (ao (bx (ao aq (ao aq (ao aq ak)))) ak)))) ak)))))))) (aH (cQ (ik (K:=K) rfl PySem.F.plainAttrs_list PySem.F.slot_list_append PySem.F.type_list_append eN (pv 2) (ao (bF (ao (pv 4) (ao (pv 5) (ao (pv 6) (ao (cg (bc yH (pv 1) gf (bj _)) (pv 7) (bu aZ (pv 1) (pv 3))) (ao (bx (ao aq (ao aq (ao aq ak)))) ak)))))) ak)))))) (aH (bw (pv 2))))),?_⟩
 have lu:=au.length;rw[bW] at lu;ext;refine⟨⋯,fun p H1 f1 s1 e1=>?_⟩
 rw[BL];ext;obtain⟨mV,TA⟩:=uF au;refine EK.of (s1 _ _ el) (fun i σ H'=>∃o3 o4 o5 o6 o7 ws,σ=[some (.ref rl),some sv,some (.ref p),o3,o4,o5,o6,o7]/\ws.length=i/\aL H H'/\H' p=some (.lst (ws.map V.ref))/\p∉ws/\ws.Nodup/\(∀w∈ws,H w=none)/\∀(j:Nat) w t st,ws[j]?=some w->ts[j]?=some t->ss[j]?=some st->Md1 H' w t.1 t.2.1 t.2.2 st [0,0,0]) ⟨_,_,_,_,_,[],rfl,rfl,s1,e1,by simp,by simp,by simp,fun j w t st h=>by simp at h⟩ (fun i σ H' _ h=>?_) ?_ ?_
 ·obtain⟨_,_,_,_,_,_,_,_,s,_⟩:=h;exact s _ _ el
 ·rintro i x σ H2 pp hx ⟨o3,o4,o5,o6,o7,ws,rfl,lw,s2,e2,np,nd,wn,g⟩ fp;have hi:i<ts.length:=by rw[<- lu]; exact(iY.mp hx).1
  have et:ts[i]?=some ts[i]:=dC hi;obtain⟨a,vp,h1,h2,h3⟩:=TA.at_ i _ et;rw[hx] at h1;cases h1;have sp:=aP fp (HO.tup [.int (i:Nat),V.ref a]);refine⟨pp,_,rfl,eX.of aB,rfl,?_⟩;generalize upd H2 pp (HO.tup [.int (i:Nat),V.ref a])=H3 at sp ⊢;have s3:=s2.trans sp;refine⟨a,_,rfl,eX.of (s3 _ _ h3),rfl,?_⟩;obtain⟨vq,hvq,avp⟩:=TA.ap.get h2;rw[cM,cM,et] at hvq;cases hvq;obtain⟨pa,pb,pc,pd,rfl,k1,k2,_,_⟩:=yD avp;ext;refine Ix.tup (s3 _ _ k1) (aV (j:=2) rfl) (Ix.tup (s3 _ _ k2) (aV (j:=0) rfl) ?_);have es:ss[i]?=some ss[i]:=dC ∅
  have tail:∀(v:V)(G G7 G8:Hp)(q7 q8:Addr),aL H3 G->At G (n_ ss[i]) v->aL G G7->G7 q7=some (.tup [.int 0,.int 0,.int 0])->G7 q8=none->aL G7 G8->G8 q8=some (.lst [.str ts[i].1,.ref pa,lD ts[i].2.2,v,.ref q7])->G8 p=some (.lst (ws.map V.ref))/\(ws++[q8]).length=i+1/\aL H (upd G8 p (.lst (ws.map V.ref++[.ref q8])))/\upd G8 p (.lst (ws.map V.ref++[.ref q8])) p=some (.lst ((ws++[q8]).map V.ref))/\p∉ws++[q8]/\(ws++[q8]).Nodup/\(∀w∈ws++[q8],H w=none)/\∀(j:Nat) w t st,(ws++[q8])[j]?=some w->ts[j]?=some t->ss[j]?=some st->Md1 (upd G8 p (.lst (ws.map V.ref++[.ref q8]))) w t.1 t.2.1 t.2.2 st [0,0,0]:=by
   intro v G G7 G8 q7 q8 sG av s7 e7 f8 s8 e8;have s28:aL H2 G8:=sp.trans (sG.trans (s7.trans s8));have sH8:aL H G8:=s2.trans s28;have ep8:=s28 _ _ e2;have nqp:q8≠p:=fun z=>by rw[z,(sp.trans (sG.trans s7)) _ _ e2] at f8; cases f8
   have h8:H q8=none:=by
    cases c:H q8 with
    | none=>rfl
    | some o=>rw[(s2.trans (sp.trans (sG.trans s7))) _ _ c] at f8; cases f8
   have nw8:q8∉ws:=fun z=>by
    obtain⟨j,hj⟩:=Aj z;have hjl:j<i:=by rw[<- lw]; exact(iY.mp hj).1
    have ej:ts[j]?=some ts[j]:=dC ∅
    have fj:ss[j]?=some ss[j]:=dC ∅
    obtain⟨_,_,_,w1,_⟩:=(g j q8 _ _ hj ej fj).ex;rw[(sp.trans (sG.trans s7)) _ _ w1] at f8; cases f8
   have kp:dH G8 (upd G8 p (.lst (ws.map V.ref++[.ref q8]))):=dH.putL ep8;refine⟨ep8,by rw[dg,lw]; rfl,sH8.eZ f1,by rw[aB,ig]; rfl,?_,?_,?_,?_⟩
   ·intro z;rcases iJ.mp z with h | h
    ·exact np h
    ·exact nqp (iU.mp h).symm
   ·refine tG.mpr ⟨nd,by simp,fun a ha b hb z=>?_⟩
    rw[iU.mp hb] at z;exact nw8 (z▸ha)
   ·intro w hw;rcases iJ.mp hw with h | h
    ·exact wn w h
    ·rw[iU.mp h]; exact h8
   ·intro j w t st hj ht hst;by_cases hji:j<i
    ·rw[JR ∅] at hj
     refine(g j w t st hj ht hst).kp (s28.kp.trans kp) fun xs e=>?_;rw[aJ (fun z=>np (by rw[<- z]; exact dz hj))]
     exact s28 _ _ e
    ·rw[Ef ∅,lw] at hj
     obtain rfl:j=i:=by
      cases c:j-i with
      | zero=>omega
      | succ d=>rw[c] at hj; simp at hj
     rw[Cj] at hj;cases hj;rw[et] at ht; cases ht;rw[es] at hst; cases hst;exact⟨⟨.ref pa,v,.ref q7,by rw[aJ nqp]; exact e8,At.kp kp _ _ (g8 _) (avp.mono (s3.trans (sG.trans (s7.trans s8)))),At.kp kp _ _ (jD _) (av.mono (s7.trans s8)),At.kp kp _ _ (sy _) (At.tup (s8 _ _ e7) (bU [0,0,0]))⟩⟩
  refine⟨⋯,fun g1 G1 j1 t1 d1=>⟨⋯,fun g2 G2 j2 t2 d2=>⟨⋯,fun g3 G3 j3 t3 d3=>⟨⋯,fun g4 G4 j4 t4 d4=>⟨⋯,fun g5 G5 j5 t5 d5=>⟨⋯,fun g6 G6 j6 t6 d6=>?_⟩⟩⟩⟩⟩⟩
  have Vs:aL H3 G6:=t1.trans (t2.trans (t3.trans (t4.trans (t5.trans t6))));have ty:∀G,aL H3 G->tyV K "list" (V.ref p) G:=fun G sG=>.inl ⟨rfl,_,cG.of (sG _ _ (sp _ _ e2))⟩;refine⟨ty _ Vs,trivial,?_⟩;have sm:(ws.map V.ref).length<sizeLine:=by rw[bW]; exact a_ ∅
  rcases hsv with⟨rfl,hs⟩ | ⟨sl,zs,rfl,esl,asl⟩
  ·rw[aX ⋯]
   have hsi:ss[i]=gM ts[i].2.1:=by
    have:(ts.map fun x=>gM x.2.1)[i]?=some ss[i]:=by rw[<- hs]; exact es
    rw[cM,et] at this;exact(Option.some.inj this).symm
   have av:At G6 (n_ ss[i]) (.ref g6):=by
    rw[hsi];have Mi:aL G1 G6:=t2.trans (t3.trans (t4.trans (t5.trans t6)));have a0:∀g G,aL G G6->G g=some (.tup [.int 0,.int 0,.int 0])->At G6 (h_ [0,0,0]) (.ref g):=fun g G sG e=>At.tup (sG _ _ e) (bU [0,0,0]);exact At.tup d6 (aj.cons (At.int _) (aj.cons (At.int _) (aj.cons (At.tup (Mi _ _ d1) (bU [0,0,0,0,0])) (aj.cons (At.int _) (aj.cons (At.int _) (aj.cons (At.tup (t6 _ _ d5) (aj.cons (a0 _ _ (t3.trans (t4.trans (t5.trans t6))) d2) (aj.cons (a0 _ _ (t4.trans (t5.trans t6)) d3) (aj.cons (a0 _ _ (t5.trans t6) d4) aj.nil)))) aj.nil))))))
   refine⟨⋯,fun q7 G7 f7 s7 e7=>⟨⋯,fun q8 G8 f8 s8 e8=>?_⟩⟩
   obtain⟨u1,u2⟩:=tail _ _ _ _ _ _ Vs av s7 e7 f8 s8 e8;exact⟨p,_,_,rfl,rfl,u1,sm,_,_,_,_,_,ws++[q8],rfl,u2⟩
  ·rw[aQ (by simp)]
   obtain⟨v,ev,av⟩:=(asl.nth (i:=i) (d:=n_ ss[i]) (by rw[cM,es]; rfl))
   have s06:=s3.trans Vs;refine Ix.lst (s06 _ _ esl) (aV ev) ?_;refine⟨⋯,fun q7 G7 f7 s7 e7=>⟨⋯,fun q8 G8 f8 s8 e8=>?_⟩⟩
   obtain⟨u1,u2⟩:=tail _ _ _ _ _ _ Vs (av.mono s06) s7 e7 f8 s8 e8;exact⟨p,_,_,rfl,rfl,u1,sm,_,_,_,_,_,ws++[q8],rfl,u2⟩
 ·rintro σ H2 ⟨o3,o4,o5,o6,o7,ws,rfl,lw,s2,e2,np,nd,wn,g⟩;rw[lu] at lw;have nn:(Ib tot ts ss).ns.length=ts.length:=by show(ts.map _).length=_; rw[bW]
  ext;refine q p ws H2 f1 np wn s2 e2 ⟨by rw[nn]; exact lw,nd,fun j w n x o st t h1 h2 h3 h4 h5 h6=>?_⟩
  replace h2:(ts.map (·.1))[j]?=some n:=h2
  replace h3:(ts.map (·.2.1))[j]?=some x:=h3
  replace h4:(ts.map (·.2.2))[j]?=some o:=h4
  replace h6:(ts.map fun _=>([0,0,0]:List Int))[j]?=some t:=h6
  rw[cM] at h2 h3 h4 h6;cases e:ts[j]? with
  | none=>rw[e] at h2; cases h2
  | some z=>
   rw[e] at h2 h3 h4 h6;cases h2; cases h3; cases h4; cases h6;exact g j w z st h1 e h5
theorem Y8{G:Hp}{t:List Int}{v:V}(h:At G (h_ t) v):∃b,v=.ref b/\G b=some (.tup (t.map V.int)):=by
 obtain⟨b,xs,rfl,e,a⟩:=bB h;have:xs=t.map V.int:=cz a;rw[this] at e;exact⟨b,rfl,e⟩
theorem Z6{x:gm}{st:jk}{c ch:Int}(h:uz x)(ht:0<=st.t):0<=(dM x (dZ x st c) ch).t:=by
 unfold dM;split
 ·show 0<=(if 0>st.t-1 then 0 else st.t-1); split <;> omega
 ·split
  ·exact h.u.1
  ·exact h.d.1
theorem RG{y:Yd}{cm:List Int}(YO:fB y)(h:∀s∈y.ss,0<=s.t):∀{i:Nat},i<=y.ns.length->∀s∈(eV y cm i).1.ss,0<=s.t
 | 0,_,s,hs=>h s hs
 | i+1,hi,s,hs=>by
  have Y:=sZ (cm:=cm) YO (Mp hi);have ih:=RG YO h (cm:=cm) (i:=i) (Mp hi);have f:=fZ y cm i
  replace hs:s∈(Wh (eV y cm i).1 i _).ss:=hs
  rcases RT hs with e | e
  ·exact ih s e
  ·rw[e];have hl:i<(eV y cm i).1.ps.length:=by rw[Y.lp,f.n]; omega
   have hl2:i<(eV y cm i).1.ss.length:=by rw[Y.ls,f.n]; omega
   refine Z6 ?_ ?_
   ·unfold z7;rw[iV,dC hl];exact Y.pg _ (tE _)
   ·unfold z8;rw[iV,dC hl2];exact ih _ (tE _)
theorem agJ{y:Yd}{cs:List (Str×Int)}(YO:fB y)(h:∀s∈y.ss,0<=s.t):∀s∈(La y cs).ss,0<=s.t:=RG YO h (bJ _)
theorem Tt:∀{ss:List jk},(∀s∈ss,Jd s)->∀s∈ss,hnd s<=hands ss
 | [],_,s,h=>by simp at h
 | z::ss,g,s,h=>by
  have i0:hands (z::ss)=hnd z+hands ss:=by unfold hands; simp
  have h0:=Tr (g z (iK ..))
  have hr:0<=hands ss:=by
   clear i0 h;have g':∀s∈ss,Jd s:=fun s hs=>g s (jb _ hs);clear g h0
   induction ss with
   | nil=>unfold hands; simp
   | cons u ss ih=>
    have:=ih fun s hs=>g' s (jb _ hs);have:=Tr (g' u (iK ..));unfold hands at *;simp only[iI,Af];omega
  rcases bN.mp h with rfl | h
  ·omega
  ·have:=Tt (fun s hs=>g s (jb _ hs)) s h;omega
theorem aeF{y:Yd}(YO:fB y)(h6:y.tot<=60)(ht:∀s∈y.ss,0<=s.t):∀s∈y.ss,StW s:=fun s hs=>by
 have n:=YO.sg s hs;have:=Tt YO.sg s hs;have:=YO.hs;exact⟨n.is,n.r,n.cn,by unfold hnd at *; omega,ht s hs⟩
def YJ(kvs:List (Key×V))(ns:List Str)(cm:List Int):Prop:=∀(j:Nat) n,ns[j]?=some n->(iz kvs (.inr n:Key)).getD (.int 0)=.int (cm.getD j 0)
def Ue(q:Str×Int):Key×V:=(.inr q.1,.int q.2)
theorem vV(n:Str):∀(cs:List (Str×Int))(acc:List (Key×V)),(cs.map (·.1)).Nodup->iz (gZ acc (cs.map Ue)) (.inr n:Key)=match cs.lookup n with | some c=>some (.int c) | none=>iz acc (.inr n)
 | [],acc,_=>rfl
 | q::cs,acc,nd=>by
  show iz (gZ (putK acc (.inr q.1) (.int q.2)) (cs.map Ue)) _=_;have Ws:=jY.mp nd;rw[vV n cs _ Ws.2];by_cases e:n=q.1
  ·subst e
   have:cs.lookup q.1=none:=RX.mpr fun p hp=>by
    simp only[bne_iff_ne,ne_eq];intro z;exact Ws.1 (by show q.1∈cs.map (·.1); rw[z]; exact List.mem_map_of_mem hp)
   have e3:(q::cs).lookup q.1=some q.2:=by rw[rn]; simp
   rw[this,e3,xq,aX rfl]
  ·have e2:(q::cs).lookup n=cs.lookup n:=by
    rw[rn];have:(n==q.1)=false:=by simpa using e
    rw[this]
   rw[e2,xq,aQ (by intro z; exact e (Sum.inr.inj z))]
theorem Mv(acc:List (Key×V))(k:Key)(v:V):(putK acc k v).length<=acc.length+1:=by
 unfold putK;split
 ·rw[bW]; omega
 ·rw[dg]; exact bJ _
theorem vW:∀(kvs acc:List (Key×V)),(gZ acc kvs).length<=acc.length+kvs.length
 | [],acc=>bJ _
 | p::kvs,acc=>by
  show(gZ (putK acc p.1 p.2) kvs).length<=_;have:=vW kvs (putK acc p.1 p.2);have:(putK acc p.1 p.2).length<=acc.length+1:=Mv acc p.1 p.2;rw[fH]; omega
theorem YJ.init{ns:List Str}{cs:List (Str×Int)}(nd:(cs.map (·.1)).Nodup):YJ (gZ [] (cs.map Ue)) ns (xj ns cs):=fun j n hj=>by
 rw[vV n cs [] nd,iV];unfold xj;rw[cM,hj];cases e:cs.lookup n with
 | none=>simp[e,Q5]
 | some c=>simp[e]
theorem YJ.put{kvs:List (Key×V)}{ns:List Str}{cm:List Int}{o:Str}{i:Nat}{v:Int}(h:YJ kvs ns cm)(nd:ns.Nodup)(ho:ns[i]?=some o)(hl:ns.length=cm.length):YJ (putK kvs (.inr o:Key) (.int v)) ns (cm.set i v):=fun j n hj=>by
 have hi:i<ns.length:=(iY.mp ho).1;rw[xq,iV,OD];by_cases e:j=i
 ·subst e;rw[ho] at hj;cases hj;rw[aX rfl,aX rfl,aX ∅]
  rfl
 ·have ne:¬(Sum.inr n:Key)=.inr o:=fun z=>by
   cases z;exact e (HY nd hj ho)
  rw[aQ ne,aQ (fun z=>e z.symm),<- iV];exact h j n hj
theorem Qj{H:Hp}{us:List V}{cs:List (Str×Int)}(a:aj H (cs.map U7) us):Ld H us (cs.map Ue):=by
 have l:=a.length;refine⟨by rw[bW] at l ⊢; exact l,fun i x q hx hq=>?_⟩
 obtain⟨d,hd,ad⟩:=a.get hx;rw[cM] at hd hq;cases e:cs[i]? with
 | none=>rw[e] at hd; cases hd
 | some z=>
  rw[e] at hd hq;cases hd;cases hq;obtain⟨b,rfl,eb⟩:=Ud ad;exact⟨b,rfl,eb⟩
def Ye(ns:List Str)(cm:List Int)(d:Int):Option Str->List Int
 | none=>cm
 | some o=>cm.set (ns.idxOf o) (cm.getD (ns.idxOf o) 0+d)
def XR:Sp:=fun vs H Q _=>∃(m:Addr)(ws:List Addr)(y:Yd)(cl:Addr)(us:List V)(cs:List (Str×Int)),vs=[.ref m,.int y.tot,.ref cl]/\H m=some (.lst (ws.map V.ref))/\mz H ws y/\m∉ws/\fB y/\(∀s∈y.ss,0<=s.t)/\y.tot<=60/\H cl=some (.lst us)/\aj H (cs.map U7) us/\CmG y.ns cs /\
 ∀p xs H',H p=none->Fr ws H H'->mz H' ws (La y cs)->H' p=some (.lst xs)->aj H' ((Jg y cs).map Ov) xs->Q (.ref p) H'
theorem vJ:bf ["_law_model","_law_total","_law_comes_here","_law_coming","_law_told","_law_spot","_law_name","_law_post_here","_law_onward","_law_stand_here","_law_counts","_law_come","_law_free","_law_done","_law_away","_law_change"] BD (aK qU):=(by walk_at "c")
theorem HJ(F:iT K "_law_turned" "_law_turned" qU f fd)(B:Bi mg)(vA:Ct P w K mg base k "_law_hands" BB Zj)(Uo:Ct P w K mg base k "_law_beat" BA L_):bI P w K mg base gQ (k+1) f fd BD XR:=by
 refine F.ok vJ (hbody:=(0:))
 obtain⟨m,ws,y,cl,us,cs,rfl,em,M,nm,YO,ht,h6,ecl,au,CG,q⟩:=h;have ND:=vJ.nd;refine⟨_,(aA (pJ (i:=3) (j:=4) rfl ND rfl rfl ⋯ rfl rfl (ao (pt (KD hr.units rfl) B.dict N8 (ao (pv 2) ak)) (ao (bF ak) ak)) (by rfl)) (aA (gK PassesOwn.never rfl (bM (K:=K) rfl (pv 0)) (aG (i:=5)) (aA (cI (pv 5) (My (K:=K) (n:=5) rfl rfl (aF (aG (i:=6)) (aF (aG (i:=7)) (aF (aG (i:=8)) (aF (aG (i:=9)) (aF (aG (i:=10)) bG))))))) (aA (pJ (i:=11) (j:=12) rfl ND rfl rfl ⋯ rfl rfl (ao (Hw (Mq (Nat.add_le_add_left (by decide:1<=64) _) hr.units) (pv 3) (pv 6) aq ⟨rfl,rfl,rfl,rfl⟩) (ao (pb (cW rfl) B.min iR (ao aq (ao (aO dY (pv 1) (pf vA hr (ao (pv 0) ak))) ak))) ak)) (by rfl)) (aA (cI (pf Uo hr (ao (pv 7) (ao (pv 9) (ao (pv 11) (ao (pv 12) ak))))) (bL (K:=K) (n:=4) rfl rfl (aF (aG (i:=9)) (aF (aG (i:=13)) (aF (aG (i:=14)) (aF (aG (i:=15)) bG)))))) (aA (b_ (bc qj (pv 8) gf (bj _)) (aH (cI (aO bz (Hw (Mq (Nat.add_le_add_left (by decide:1<=64) _) hr.units) (pv 3) (pv 8) aq ⟨rfl,rfl,rfl,rfl⟩) (pv 13)) (jw (pv 3) (pv 8) (xN hr.units)))) bD) (aA (cI (bx (ao (pv 9) (ao (bx (ao (aO bz (bu aZ (pv 10) aq) (pv 11)) (ao (aO bz (bu aZ (pv 10) aq) (pv 13)) (ao (aO bz (bu aZ (pv 10) aq) (pv 14)) ak)))) ak))) (bL (K:=K) (n:=2) rfl rfl (aF (jw (pv 5) aq set_list) (aF (jw (pv 5) aq set_list) bG)))) (aH (cQ (ik (K:=K) rfl PySem.F.plainAttrs_list PySem.F.slot_list_append PySem.F.type_list_append eN (pv 4) (ao (bx (ao (pv 6) (ao (pv 11) (ao (pv 13) (ao (pv 14) (ao (pv 15) ak)))))) ak)))))))))) (aH (bw (pv 4))))),?_⟩
 have lu:=au.length;rw[bW] at lu;have lcs:=CG.l;have lM:=M.l;have n5:=YO.n5;simp only[xO];ext;refine⟨cl,us,cs.map Ue,rfl,ecl,∅,Qj au,fun dc Yq=>?_⟩
 have s1:=aP Yq (HO.dK (gZ [] (cs.map Ue)));have e1:upd H dc (.dK (gZ [] (cs.map Ue))) dc=some (.dK (gZ [] (cs.map Ue))):=aB;generalize upd H dc (.dK (gZ [] (cs.map Ue)))=H1 at s1 e1 ⊢;have mdc:m≠dc:=fun z=>by rw[<- z,em] at Yq; cases Yq
 refine⟨⋯,fun p H2 f2 s2 e2=>⟨_,_,rfl,?_⟩⟩
 have hf2:H p=none:=by
  cases c:H p with
  | none=>rfl
  | some o=>rw[s1 _ _ c] at f2; cases f2
 have pdc:p≠dc:=fun z=>by rw[z,e1] at f2; cases f2
 have mp:m≠p:=fun z=>by rw[<- z,s1 _ _ em] at f2; cases f2
 have wal:∀w∈ws,∃o,H w=some o:=fun w hw=>by
  obtain⟨j,hj⟩:=Aj hw;obtain⟨w',_,_,_,_,_,g0,_,_,_,_,_,D⟩:=M.get YO.L (i:=j) (by have:=(iY.mp hj).1; omega)
  rw[hj] at g0; cases g0;obtain⟨_,_,_,d1,_⟩:=D.ex;exact⟨_,d1⟩
 have wdc:dc∉ws:=fun z=>by obtain⟨o,e⟩:=wal _ z; rw[Yq] at e; cases e
 have wp:p∉ws:=fun z=>by obtain⟨o,e⟩:=wal _ z; rw[hf2] at e; cases e
 rw[oH];ext;have cl0:=xg y.ns cs;generalize hcm:xj y.ns cs=cm at cl0;have s02:=s1.trans s2
 have k0:(gZ [] (cs.map Ue)).length<=5:=by
  have:=vW (cs.map Ue) [];rw[bW] at this;simp only[rm] at this;omega
 refine LK.ofN (s02 _ _ em) (fun i σ H'=>∃o5 o6 o7 o8 o9 Z3 Z2 Pk o13 o14 o15 kvs xs,σ=[some (.ref m),some (.int y.tot),some (.ref cl),some (.ref dc),some (.ref p),o5,o6,o7,o8,o9,Z3,Z2,Pk,o13,o14,o15]/\H' dc=some (.dK kvs)/\kvs.length<=5+i/\YJ kvs y.ns (eV y cm i).2.1/\H' p=some (.lst xs)/\aj H' ((eV y cm i).2.2.map Ov) xs/\Fr ws H H'/\mz H' ws (eV y cm i).1) ⟨_,_,_,_,_,_,_,_,_,_,_,_,[],rfl,s2 _ _ e1,k0,by rw[<- hcm]; exact YJ.init CG.nd,e2,aj.nil,(s02.fr ws),M.mono s02⟩ (fun i σ H' _ h=>?_) ?_ ?_
 ·obtain⟨_,_,_,_,_,_,_,_,_,_,_,_,_,_,_,_,_,_,_,fr,_⟩:=h;exact fr _ _ em nm
 ·rintro i x0 σ H3 hx ⟨o5,o6,o7,o8,o9,Z3,Z2,Pk,o13,o14,o15,kvs,xs,rfl,Qg,lk,CD,ep,ax,fr,M3⟩ NN hM;rw[cM] at hx;cases ew:ws[i]? with
  | none=>rw[ew] at hx; cases hx
  | some w=>
  rw[ew] at hx;cases hx;have hi:i<y.ns.length:=by rw[<- lM]; exact(iY.mp ew).1
  have hw:=dz ew;have fx:=fZ y cm i;have Y':=sZ (cm:=cm) YO (i:=i) ∅
  have T':=RG YO ht (cm:=cm) (i:=i) ∅
  have step:eV y cm (i+1)=oK (eV y cm i) i:=rfl;have afx:=fx.r;have fxn:=fx.n;have fxt:=fx.t;have fxl:=fx.l;clear fx;generalize hz:eV y cm i=z at *;obtain⟨y',zP,rows⟩:=z;dsimp only at *;have hi':i<y'.ns.length:=by rw[fxn]; exact hi
  obtain⟨w',n,x,o,st,t,g0,g1,g2,g3,g4,g5,D⟩:=M3.get Y'.L hi';rw[ew] at g0;cases g0;obtain⟨pv,sv,cv,d1,d2,d3,d4⟩:=D.ex;have gX:z7 y' i=x:=by unfold z7; rw[iV,g2]; rfl
  have gS:z8 y' i=st:=by unfold z8; rw[iV,g4]; rfl
  have gT:Sh y' i=t:=by unfold Sh; rw[iV,g5]; rfl
  have gN:y'.ns.getD i "" = n:=by rw[iV,g1]; rfl
  have gO:y'.os.getD i none=o:=by rw[iV,g3]; rfl
  obtain⟨bt,rfl,ebt⟩:=Y8 d4;obtain⟨t0,t1,t2,et⟩:=acO (Y'.tg _ (dz g5));have hn:y.ns[i]?=some n:=by rw[<- fxn]; exact g1
  have cn:=CD i n hn;ext;refine⟨w,_,rfl,cG.of d1,rfl,?_⟩;ext;refine⟨dc,rfl,.inl ⟨kvs,.inl Qg⟩,iz kvs (.inr n),jL.k (k:=.inr n) Qg,?_⟩;rw[cn];have em3:=fr _ _ em nm;refine⟨m,ws,y',rfl,em3,M3,Y'.L,by rw[fxn]; exact n5,fun H4 s4=>?_⟩
  refine⟨_,_,rfl,rfl,_,_,rfl,?_⟩;have efr:(if y.tot-hands y'.ss<12 then y.tot-hands y'.ss else 12)=jB y':=by unfold jB; rw[fxt]; split <;> split <;> omega
  rw[efr];refine⟨pv,sv,x,st,zP.getD i 0,jB y',rfl,d2.mono s4,d3.mono s4,Y'.pg _ (dz g2),aeF Y' (by rw[fxt]; exact h6) T' _ (dz g4),Nv Y',fun pb u' H5 s5 a5 e5=>?_⟩
  refine⟨pb,_,rfl,eX.of e5,rfl,?_⟩;ext;have Vt:=s4.trans s5
  have stp:oK (y',zP,rows) i=(Wh y' i (zP.getD i 0),Ye y'.ns zP (eQ x st (zP.getD i 0)) o,rows++[⟨n,zP.getD i 0,eQ x st (zP.getD i 0),zP.getD i 0-cO x st (zP.getD i 0),oE x st (zP.getD i 0) (jB y')⟩]):=by
   unfold oK z9;dsimp only;rw[gX,gS,gN,gO];cases o <;> rfl
  have afj:ZX y' i (zP.getD i 0)=dM x (dZ x st (zP.getD i 0)) (oE x st (zP.getD i 0) (jB y')):=by unfold ZX; rw[gX,gS]
  have afi:Uv (Sh y' i) (zP.getD i 0) (z9 y' i (zP.getD i 0)).d (z9 y' i (zP.getD i 0)).a=[t0+zP.getD i 0,t1+eQ x st (zP.getD i 0),t2+(zP.getD i 0-cO x st (zP.getD i 0))]:=by
   unfold z9 Uv;dsimp only;rw[gT,gX,gS,et];rfl
  rw[step,stp] at hM;dsimp only at hM
  try rw[step,stp] at *
  try dsimp only
  generalize hc:zP.getD i 0=c at *;generalize eQ x st c=dn at *;generalize c-cO x st c=aw at *;generalize oE x st c (jB y')=ch at *;subst et;refine gR.of (R:=fun σ' H'=>∃kvs',σ'=[some (V.ref m),some (V.int y.tot),some (V.ref cl),some (V.ref dc),some (V.ref p),some (V.ref w),some (V.str n),some pv,some (lD o),some u',some (V.ref bt),some (V.int c),some (V.int (jB y')),some (V.int dn),some (V.int aw),some (V.int ch)]/\H' dc=some (.dK kvs')/\kvs'.length<=5+(i+1)/\YJ kvs' y.ns (Ye y'.ns zP dn o)/\Fr [dc] H5 H') ?_ ?_
  ·rintro σ' H6 ⟨kvs',rfl,agf,lk6,CD6,fr6⟩;have hb3:∀b o',H3 b=some o'->b≠dc->H6 b=some o':=fun b o' e n=>fr6 _ _ (Vt _ _ e) (by simpa using n)
   have ndc:w≠dc:=fun z=>wdc (z▸hw);have nwp:w≠p:=fun z=>wp (z▸hw);have d16:=hb3 _ _ d1 ndc;have ep6:=hb3 _ _ ep pdc;have bdc:bt≠dc:=fun z=>by rw[z,Qg] at ebt; cases ebt
   have aaE:=hb3 _ _ ebt bdc;have k36:dH H3 H6:=fun b xs' e=>hb3 _ _ e fun z=>by rw[z,Qg] at e; cases e
   have k56:dH H5 H6:=fr6.kp fun b hb xs' e=>by rw[iU.mp hb,Vt _ _ Qg] at e; cases e
   have au6:=At.kp k56 _ _ (jD _) a5;ext;refine Ix.tup aaE (aV (j:=0) rfl) ⟨_,_,rfl,rfl,Ix.tup aaE (aV (j:=1) rfl) ⟨_,_,rfl,rfl,Ix.tup aaE (aV (j:=2) rfl) ⟨_,_,rfl,rfl,⋯,fun q7 H7 f7 s7 e7=>⟨⋯,fun q8 H8 f8 s8 e8=>⟨q8,_,rfl,eX.of e8,rfl,?_⟩⟩⟩⟩⟩
   have d18:=s8 _ _ (s7 _ _ d16);ext;refine⟨w,_,3,3,rfl,rfl,d18,rfl,?_⟩;ext;refine⟨w,_,4,4,rfl,rfl,aB,rfl,?_⟩;ext;have s68:=s7.trans s8;have e9:upd (upd H8 w (.lst ([V.str n,pv,lD o,sv,V.ref bt].set 3 u'))) w (.lst (([V.str n,pv,lD o,sv,V.ref bt].set 3 u').set 4 (V.ref q7))) w=some (.lst [.str n,pv,lD o,u',.ref q7]):=aB;have o9:∀b,b≠w->upd (upd H8 w (.lst ([V.str n,pv,lD o,sv,V.ref bt].set 3 u'))) w (.lst (([V.str n,pv,lD o,sv,V.ref bt].set 3 u').set 4 (V.ref q7))) b=H8 b:=fun b nb=>by rw[aJ nb,aJ nb]
   generalize upd (upd H8 w (.lst ([V.str n,pv,lD o,sv,V.ref bt].set 3 u'))) w (.lst (([V.str n,pv,lD o,sv,V.ref bt].set 3 u').set 4 (V.ref q7)))=G9 at e9 o9 ⊢;have ep9:G9 p=some (.lst xs):=by rw[o9 p nwp.symm]; exact s68 _ _ ep6
   have lxs:=ax.length;rw[bW,afx] at lxs;refine⟨.inl ⟨rfl,_,cG.of ep9⟩,⋯,fun O2 Aa f10 wu e10=>?_⟩
   refine⟨p,xs,.ref O2,rfl,rfl,wu _ _ ep9,a_ ∅,?_⟩
   have n10:O2≠p:=fun z=>by rw[z,ep9] at f10; cases f10
   have afA:dH Aa (upd Aa p (.lst (xs++[.ref O2]))):=dH.putL (wu _ _ ep9)
   have hbF:∀b o',H3 b=some o'->b≠dc->b≠w->b≠p->upd Aa p (.lst (xs++[.ref O2])) b=some o':=fun b o' e n1 n2 n3=>by
    rw[aJ n3];exact wu _ _ (by rw[o9 b n2]; exact s68 _ _ (hb3 _ _ e n1))
   have k3F:dH H3 (upd Aa p (.lst (xs++[.ref O2]))):=fun b xs' e=>hbF b _ e (fun z=>by rw[z,Qg] at e; cases e) (fun z=>by rw[z,d1] at e; cases e) (fun z=>by rw[z,ep] at e; cases e)
   have k89:dH H8 G9:=fun b xs' e=>by
    rw[o9 b (fun z=>by rw[z,d18] at e; cases e)]; exact e
   have k8F:dH H8 (upd Aa p (.lst (xs++[.ref O2]))):=k89.trans (wu.kp.trans afA);refine hM _ _ ⟨_,_,_,_,_,_,_,_,_,_,_,kvs',xs++[.ref O2],rfl,?_,∅,CD6,aB,?_,?_,?_⟩
   ·rw[aJ pdc.symm];exact wu _ _ (by rw[o9 dc ndc.symm]; exact s68 _ _ agf)
   ·rw[ig];exact(aj.kp k3F _ _ (qg _) ax).snoc (At.tup (by rw[aJ n10]; exact e10) (aj.cons (At.str _) (aj.cons (At.int _) (aj.cons (At.int _) (aj.cons (At.int _) (aj.cons (At.int _) aj.nil))))))
   ·exact fun b o' e nb=>hbF b o' (fr b o' e nb) (fun z=>by rw[z,Yq] at e; cases e) (fun z=>nb (z▸hw)) (fun z=>by rw[z,hf2] at e; cases e)
   ·refine⟨M3.l,M3.nd,fun j w2 n2 x2 o2 st2 t2 h1 h2 h3 h4 h5 h6'=>?_⟩
    replace h2:y'.ns[j]?=some n2:=h2
    replace h3:y'.ps[j]?=some x2:=h3
    replace h4:y'.os[j]?=some o2:=h4
    replace h5:(y'.ss.set i (ZX y' i c))[j]?=some st2:=h5
    replace h6':(y'.ts.set i (Uv (Sh y' i) c (z9 y' i c).d (z9 y' i c).a))[j]?=some t2:=h6'
    rw[OD] at h5 h6';by_cases ji:i=j
    ·subst ji;rw[ew] at h1; cases h1;rw[g1] at h2; cases h2;rw[g2] at h3; cases h3;rw[g3] at h4; cases h4;rw[aX rfl,aX (by rw[Y'.ls]; exact hi')] at h5
     rw[aX rfl,aX (by rw[Y'.lt]; exact hi')] at h6'
     cases h5;cases h6';rw[afj,afi];exact⟨⟨pv,u',.ref q7,by rw[aJ nwp]; exact wu _ _ e9,At.kp k3F _ _ (g8 _) d2,At.kp (s68.kp.trans k8F) _ _ (jD _) au6,At.kp k8F _ _ (sy _) (At.tup (s8 _ _ e7) (bU [_,_,_]))⟩⟩
    ·rw[aQ ji] at h5 h6';refine(M3.g j w2 n2 x2 o2 st2 t2 h1 h2 h3 h4 h5 h6').kp k3F fun xs' e=>hbF w2 _ e (fun z=>by rw[z,Qg] at e; cases e) (fun z=>?_) (fun z=>wp (z▸dz h1))
     rw[z,<- ew] at h1;exact ji ((List.getElem?_inj (iY.mp ew).1 M3.nd).mp h1.symm)
  ·intro N hN;ext;refine⟨trivial,?_⟩;cases o with
   | none=>
    rw[aQ ⋯]
    exact hN _ _ ⟨kvs,rfl,Vt _ _ Qg,∅,CD,Fr.refl _ _⟩
   | some o=>
    rw[aX (by simp[lD])]
    have og:o∈y'.ns:=Hb (Y'.og i o g3)
    have oi:y'.ns[y'.ns.idxOf o]?=some o:=by
     rw[dC (List.idxOf_lt_length_of_mem og)];exact m8 some (List.getElem_idxOf _)
    have oi':y.ns[y'.ns.idxOf o]?=some o:=by rw[<- fxn]; exact oi
    have aaD:=Vt _ _ Qg;have co:=CD _ _ oi';refine⟨dc,rfl,.inl ⟨kvs,.inl aaD⟩,iz kvs (.inr o),jL.k (k:=.inr o) aaD,?_⟩;rw[co];refine⟨_,_,rfl,rfl,dc,_,rfl,uw.k (k:=.inr o) aaD (a_ ∅),hN _ _ ⟨_,rfl,aB,?_,?_,Fr.put (by simp)⟩⟩
    ·have:=Mv kvs (.inr o) (.int (zP.getD (y'.ns.idxOf o) 0+dn)); omega
    ·exact CD.put YO.nn oi' (by rw[fxl,cl0])
 ·rintro σ H3 ⟨o5,o6,o7,o8,o9,Z3,Z2,Pk,o13,o14,o15,kvs,xs,rfl,Qg,lk,CD,ep,ax,fr,M3⟩;rw[bW,lM] at ax M3;ext;have eR:Jg y cs=(eV y cm y.ns.length).2.2:=by unfold Jg; rw[hcm]
  refine q p xs H3 hf2 fr ?_ ep (by rw[eR]; exact ax)
  have eY:La y cs={ (eV y cm y.ns.length).1 with pa:=y.pa++[Jg y cs] }:=by unfold La; rw[hcm]
  rw[eY];exact⟨M3.l,M3.nd,M3.g⟩
theorem Ja{H:Hp}:∀ns:List Str,aj H (ns.map PyData.str) (ns.map V.str)
 | []=>aj.nil
 | n::ns=>aj.cons (At.str n) (Ja ns)
def ab5(C:Addr):Sp:=fun vs H Q _=>∃(a:Ya)(y:Yd)(m:Addr)(ws:List Addr)(b:Int),vs=[.ref a.p,.ref m,.int b]/\bK C H a y/\fB y/\H m=some (.lst (ws.map V.ref))/\mz H ws y/\b=(y.pa.length:Nat)/\∀H',aL H H'->Q (.bl true) H'
theorem vL:bf ["_law_yard_here","_law_model","_law_beats","_law_name","_law_post_here","_law_onward","_law_stand_here","_law_counts","_law_told"] BE (aK qX):=(by walk_at "c")
theorem HQ{C:Addr}(F:iT K "_law_as_due" "_law_as_due" qX f fd)(B:Bi mg)(Z:ZY K C)(mR:Ct P w K mg base k "_law_same" Ap (Rr 6))(vA:Ct P w K mg base k "_law_hands" BB Zj)(mj:zY P w K mg base k C "names" AV (XM C))(mq:zY P w K mg base k C "beats" AV (XQ C))(fM:zY P w K mg base k C "hands" AV (Ze C))(l_:zY P w K mg base k C "stand" AW (vG C gS))(nG:zY P w K mg base k C "post" AW (vG C gP))(kW:zY P w K mg base k C "onward" AW (vG C gO))(kY:zY P w K mg base k C "counts" AW (vG C gT)):bI P w K mg base gQ (k+1) f fd BE (ab5 C):=by
 refine F.ok vL (hbody:=(0:))
 obtain⟨a,y,m,ws,b,rfl,YA,YO,em,M,hb,q⟩:=h;have ND:=vL.nd;refine⟨_,(aA (b_ (jc (dX (pf mR hr (ao (bF (ao (pm0 mj hr (pv 0)) (ao (pm0 mq hr (pv 0)) (ao (pm0 fM hr (pv 0)) ak)))) (ao (bF (ao (dR (N':=["_law_row_here"]) (js:=[]) rfl (bM (K:=K) rfl (pv 1)) sr.Wy rfl ⋯ rfl (fun fp s' H'=>(bu aZ (pv 0) aq))) (ao (pv 2) (ao (pf vA hr (ao (pv 1) ak)) ak)))) ak))))) (aH (bw jo)) bD) (aA (gK PassesOwn.never rfl (bM (K:=K) rfl (pv 1)) (My (K:=K) (n:=5) rfl rfl (aF (aG (i:=3)) (aF (aG (i:=4)) (aF (aG (i:=5)) (aF (aG (i:=6)) (aF (aG (i:=7)) bG)))))) (aA (aW (i:=8) (bF (ao (pm nG hr (pv 0) (ao (pv 3) ak)) (ao (pm kW hr (pv 0) (ao (pv 3) ak)) (ao (pm l_ hr (pv 0) (ao (pv 3) ak)) (ao (pm kY hr (pv 0) (ao (pv 3) ak)) ak)))))) (aH (b_ (jc (dX (pf mR hr (ao (pv 8) (ao (bF (ao (pv 4) (ao (pv 5) (ao (pv 6) (ao (pv 7) ak))))) ak))))) (aH (bw jo)) bD)))) (aH (bw jo)))),?_⟩
 have n5:=YO.n5;have lM:=M.l;simp only[xO];ext;refine gR.of (R:=fun σ' H'=>σ'=[some (.ref a.p),some (.ref m),some (.int b),none,none,none,none,none,none]/\aL H H') ?_ ?_
 ·rintro σ' H1 ⟨rfl,s1⟩;simp only[qP];rw[oH];ext;refine LK.of (s1 _ _ em) (fun i σ H'=>∃o3 o4 o5 o6 o7 o8,σ=[some (.ref a.p),some (.ref m),some (.int b),o3,o4,o5,o6,o7,o8]/\aL H H') ⟨_,_,_,_,_,_,rfl,s1⟩ (fun i σ H' _ ⟨_,_,_,_,_,_,_,s⟩=>s _ _ em) ?_ ?_
  ·rintro i x0 σ H3 hx ⟨o3,o4,o5,o6,o7,o8,rfl,s3⟩;rw[cM] at hx;cases ew:ws[i]? with
   | none=>rw[ew] at hx; cases hx
   | some w0=>
   rw[ew] at hx;cases hx;have hi:i<y.ns.length:=by rw[<- lM]; exact(iY.mp ew).1
   obtain⟨w',n,x,o,st,t,g0,g1,g2,g3,g4,g5,D⟩:=(M.mono s3).get YO.L hi;rw[ew] at g0;cases g0;obtain⟨pv,sv,cv,d1,d2,d3,d4⟩:=D.ex;refine⟨w0,_,rfl,cG.of d1,rfl,?_⟩;have Y3:=YA.mono s3;ext;refine Me.of (m:="post") (R:=fun p=>_) Y3 (fun _ _ _ _ _ _ _=>rfl) ?_;refine⟨a,y,i,n,dh x,rfl,Y3,YO,g1,by show(y.ps.map dh)[i]?=_; rw[cM,g2]; rfl,fun v1 H4 s4 a4=>?_⟩
   refine Me.of (m:="onward") (R:=fun p=>_) (Y3.mono s4) (fun _ _ _ _ _ _ _=>rfl) ?_;refine⟨a,y,i,n,Jf o,rfl,Y3.mono s4,YO,g1,by show(y.os.map Jf)[i]?=_; rw[cM,g3]; rfl,fun v2 H5 s5 a5=>?_⟩
   refine Me.of (m:="stand") (R:=fun p=>_) ((Y3.mono s4).mono s5) (fun _ _ _ _ _ _ _=>rfl) ?_;refine⟨a,y,i,n,n_ st,rfl,(Y3.mono s4).mono s5,YO,g1,by show(y.ss.map n_)[i]?=_; rw[cM,g4]; rfl,fun v3 H6 s6 a6=>?_⟩
   refine Me.of (m:="counts") (R:=fun p=>_) (((Y3.mono s4).mono s5).mono s6) (fun _ _ _ _ _ _ _=>rfl) ?_;refine⟨a,y,i,n,h_ t,rfl,((Y3.mono s4).mono s5).mono s6,YO,g1,by show(y.ts.map h_)[i]?=_; rw[cM,g5]; rfl,fun v4 H7 s7 a7=>⟨⋯,fun p8 H8 f8 s8 e8=>⟨⋯,fun p9 H9 f9 s9 e9=>?_⟩⟩⟩
   have s39:aL H3 H9:=s4.trans (s5.trans (s6.trans (s7.trans (s8.trans s9))));refine⟨.ref p8,.ref p9,.list [dh x,Jf o,n_ st,h_ t],rfl,At.lst (s9 _ _ e8) (aj.cons (a4.mono (s5.trans (s6.trans (s7.trans (s8.trans s9))))) (aj.cons (a5.mono (s6.trans (s7.trans (s8.trans s9)))) (aj.cons (a6.mono (s7.trans (s8.trans s9))) (aj.cons (a7.mono (s8.trans s9)) aj.nil)))),At.lst e9 (aj.cons (d2.mono s39) (aj.cons (by cases o <;> (unfold Jf lD At; rfl)) (aj.cons (d3.mono s39) (aj.cons (d4.mono s39) aj.nil)))),SD.lst (by show 4<=1000; decide) (fun e he=>?_),⋯,fun Aa wu=>⟨true,rfl,?_⟩⟩
   ·simp only[bN,e_,or_false] at he;rcases he with rfl | rfl | rfl | rfl
    ·exact SD.pst (YO.pg _ (dz g2))
    ·exact(SD.on (YO.onS g3)).mono ⋯
    ·exact(SD.stn (n:=1) (YO.sg _ (dz g4)).is)
    ·exact(SD.ints (n:=3) (by rw[YO.tg _ (dz g5)]; decide))
   rw[aQ (by simp)]
   exact⟨_,_,_,_,_,_,rfl,s3.trans (s39.trans wu)⟩
  ·rintro σ H3 ⟨o3,o4,o5,o6,o7,o8,rfl,s3⟩;exact q _ s3
 ·intro N hN;ext;refine Me.of (m:="names") (R:=fun p=>_) YA (fun _ _ _ _ _ _ _=>rfl) ?_;refine⟨a,y,rfl,YA,YO,fun p1 H1 f1 s1 e1=>?_⟩;have Y1:=YA.mono s1;refine Me.of (m:="beats") (R:=fun p=>_) Y1 (fun _ _ _ _ _ _ _=>rfl) ?_;refine⟨a,y,rfl,Y1,YO,?_⟩;refine Me.of (m:="hands") (R:=fun p=>_) Y1 (fun _ _ _ _ _ _ _=>rfl) ?_;refine⟨a,y,rfl,Y1,YO,fun H2 s2=>⟨⋯,fun p3 H3 f3 s3 e3=>?_⟩⟩
  have pF:=s1.trans (s2.trans s3);refine lF (y.ns.map .str) (fun R hR=>by ext; exact hR) (pF _ _ em) (by simp only[bW]; omega) (by rw[bW]; omega) (oJ _) (fun i x d H' hx hd s' R hR=>?_) fun acc vs H4 f4 s4 e4 a4=>?_
  ·rw[cM] at hx;cases ew:ws[i]? with
   | none=>rw[ew] at hx; cases hx
   | some w0=>
   rw[ew] at hx;cases hx;have hi:i<y.ns.length:=by rw[<- lM]; exact(iY.mp ew).1
   obtain⟨w',n,x,o,st,t,g0,g1,g2,g3,g4,g5,D⟩:=(M.mono (pF.trans s')).get YO.L hi;rw[ew] at g0;cases g0;rw[cM,g1] at hd;cases hd;obtain⟨pv,sv,cv,d1,d2,d3,d4⟩:=D.ex;ext;exact Ix.lst d1 (aV (j:=0) rfl) (hR _ _ (aL.refl _) (At.str _))
  ·refine⟨m,ws,y,rfl,(pF.trans s4) _ _ em,M.mono (pF.trans s4),YO.L,n5,fun H5 s5=>⟨⋯,fun p6 H6 f6 s6 e6=>?_⟩⟩
   have s46:=s4.trans (s5.trans s6);refine⟨.ref p3,.ref p6,.list [.list (y.ns.map .str),.int b,.int (hands y.ss)],rfl,At.lst (s46 _ _ e3) (aj.cons (At.lst ((s2.trans (s3.trans s46)) _ _ e1) (Ja _)) (aj.cons (by rw[hb]; exact At.int _) (aj.cons (At.int _) aj.nil))),At.lst e6 (aj.cons (At.lst ((s5.trans s6) _ _ e4) (a4.mono (s5.trans s6))) (aj.cons (At.int _) (aj.cons (At.int _) aj.nil))),SD.lst (by show 3<=1000; decide) (fun e he=>?_),⋯,fun H7 s7=>⟨true,rfl,?_⟩⟩
   ·simp only[bN,e_,or_false] at he;rcases he with rfl | rfl | rfl
    ·refine SD.lst (n:=4) (by rw[bW]; omega) fun e he=>?_
     obtain⟨n,hn,rfl⟩:=cV.mp he;exact SD.str (YO.str hn)
    ·exact SD.int _
    ·exact SD.int _
   rw[aQ (by simp)]
   exact hN _ _ ⟨rfl,pF.trans (s46.trans s7)⟩
def lc(H:Hp)(b:Addr):List V:=match H b with
 | some (.lst vs)=>vs
 | _=>[]
theorem CN{H:Hp}{b:Addr}{vs:List V}(h:H b=some (.lst vs)):lc H b=vs:=by unfold lc; rw[h]
section
variable{C a:Addr}{H0 H' bO:Hp}{m m':Nat}{zs:List (Ya×Yd)}{ls:List (Addr×List V)}
theorem WD.chg(W:WD C a H0 m zs ls H'){S:List Addr}{ls':List (Addr×List V)}(f:Fr S H' bO)(hS:∀b∈S,∃vs,(b,vs)∈ls)(h':∀l∈ls',(∃vs,(l.1,vs)∈ls)/\bO l.1=some (.lst l.2)):WD C a H0 m zs ls' bO/\dH H' bO:=by
 have kp:dH H' bO:=f.kp fun b hb xs e=>by
  obtain⟨vs,h⟩:=hS b hb;rw[(W.lo _ h).2.2] at e; cases e
 have nS:∀z∈zs,∀c∈z.1.own,c∉S:=fun z hz c hc hs=>by
  obtain⟨vs,h⟩:=hS c hs;exact(W.fo z hz c hc).2.2 _ h rfl
 refine⟨⟨⟨fun z hz=>(W.ys.at_ z hz).keep kp fun c hc o e=>f _ _ e (nS z hz c hc),W.ys.dj⟩,W.yo,fun z hz c hc=>⟨(W.fo z hz c hc).1,(W.fo z hz c hc).2.1,fun l hl=>?_⟩,fun l hl=>?_,?_,?_⟩,kp⟩
 ·obtain⟨vs,h⟩:=(h' l hl).1;exact(W.fo z hz c hc).2.2 (l.1,vs) h
 ·obtain⟨vs,h⟩:=(h' l hl).1;exact⟨(W.lo _ h).1,(W.lo _ h).2.1,(h' l hl).2⟩
 ·obtain⟨u1,u2,u3,eu,r⟩:=W.tp
  exact⟨u1,u2,u3,f _ _ eu fun h=>by
   obtain⟨vs,h⟩:=hS _ h
   exact(W.lo _ h).2.1 rfl,r⟩
 ·intro b o e;obtain⟨b1,b2⟩:=iM e;rw[cP b1]
  exact f _ _ (W.sx.get b1 b2) fun h=>by
   obtain⟨vs,h⟩:=hS _ h;rw[(W.lo _ h).1] at b2; cases b2
theorem WD.adds(W:WD C a H0 m zs ls H')(s:aL H' bO):∀{ls2:List (Addr×List V)},(∀l∈ls2,H' l.1=none/\bO l.1=some (.lst l.2))->WD C a H0 m zs (ls2++ls) bO
 | [],_=>W.grow s
 | l::ls2,h=>by
  have ih:=WD.adds W s (ls2:=ls2) fun x hx=>h x (jb _ hx);obtain⟨h1,h2⟩:=h l (iK ..);obtain⟨f1,f2,_,f4⟩:=W.free h1;exact ih.mem f1 f2 f4 h2
end
structure WT(C:Addr)(H0:Hp)(as:List Addr)(M:Nat)(zs:List (Ya×Yd))(os:List Addr)(H':Hp):Prop where
 ys:aaM C H' zs
 yo:∀z∈zs,fB z.2
 fo:∀z∈zs,∀c∈z.1.own,H0 c=none/\c∉as/\c∉os
 lo:∀b∈os,H0 b=none/\b∉as/\∃vs,H' b=some (.lst vs)
 ta:∀b∈as,H0 b=none
 tp:Tps H' as M
 s:aL H0 H'
def S7(os:List Addr)(H':Hp):List (Addr×List V):=os.map fun b=>(b,lc H' b)
section
variable{C a:Addr}{H0 HB H' bO:Hp}{M m:Nat}{as os:List Addr}{zs UL:List (Ya×Yd)}{ls:List (Addr×List V)}
theorem WT.mem{b:Addr}(h:b∈os){vs:List V}(e:H' b=some (.lst vs)):(b,vs)∈S7 os H':=cV.mpr ⟨b,h,by rw[CN e]⟩
end
theorem RK(gD:List (List jz)):uy (m7 gD)=true:=by
 show bH (gD.map vP)=true;exact bC.mpr fun d hd=>by obtain⟨rs,_,rfl⟩:=cV.mp hd; exact yh rs
theorem uY{H:Hp}{x:gm}{v:V}(h:At H (dh x) v):∃a v2 v5 v6,v=.ref a/\H a=some (.tup [.int x.p,.int x.m,v2,.int x.a,.int x.e,v5,v6])/\At H (.tuple [.int x.lo,.int x.hi]) v2/\At H (.tuple [.int x.u,.int x.d]) v5/\At H (m7 x.gD) v6:=by
 obtain⟨a,xs,rfl,h1,h2⟩:=bB h;obtain⟨x0,_,rfl,b0,h2⟩:=aj.aR h2;obtain⟨x1,_,rfl,b1,h2⟩:=aj.aR h2;obtain⟨x2,_,rfl,b2,h2⟩:=aj.aR h2;obtain⟨x3,_,rfl,b3,h2⟩:=aj.aR h2;obtain⟨x4,_,rfl,b4,h2⟩:=aj.aR h2;obtain⟨x5,_,rfl,b5,h2⟩:=aj.aR h2;obtain⟨x6,_,rfl,b6,h2⟩:=aj.aR h2;cases aj.iu h2;unfold At at b0 b1 b3 b4;subst b0 b1 b3 b4;exact⟨a,x2,x5,x6,rfl,h1,b2,b5,b6⟩
theorem R0{H:Hp}{x:gm}{a:Addr}{v2 v5 v6:V}(h:H a=some (.tup [.int x.p,.int x.m,v2,.int x.a,.int x.e,v5,v6]))(h2:At H (.tuple [.int x.lo,.int x.hi]) v2)(h5:At H (.tuple [.int x.u,.int x.d]) v5)(h6:At H (m7 x.gD) v6):At H (dh x) (.ref a):=
 At.tup h (aj.cons (At.int _) (aj.cons (At.int _) (aj.cons h2 (aj.cons (At.int _) (aj.cons (At.int _) (aj.cons h5 (aj.cons h6 aj.nil)))))))
def yV(x m:gm):Nat->gm
 | 0=>{ x with p:=m.p }
 | 1=>{ x with m:=m.m }
 | 2=>{ x with lo:=m.lo,hi:=m.hi }
 | 3=>{ x with a:=m.a }
 | 4=>{ x with e:=m.e }
 | 5=>{ x with u:=m.u,d:=m.d }
 | _=>{ x with gD:=m.gD }
theorem aaa{x m:gm}(h:uz x)(g:uz m):∀i,uz (yV x m i)
 | 0=>{ h with p:=g.p }
 | 1=>{ h with m:=g.m }
 | 2=>{ h with lo:=g.lo,hi:=g.hi }
 | 3=>{ h with a:=g.a }
 | 4=>{ h with e:=g.e }
 | 5=>{ h with u:=g.u,d:=g.d }
 | _+6=>{ h with n:=g.n,r:=g.r }
def X4:Sp:=fun vs H Q _=>∃(a:Addr)(n:Nat)(v:V)(x:gm),vs=[.ref a,v]/\Tp H a n/\n<=10000000/\At H (dh x) v/\uz x/\∀v' x' H',uz x'->At H' (dh x') v'->Tp H' a (n+900)->SX a H H'->Q v' H'
theorem sV:bf ["_law_tape_here","_law_post_here","_law_at","_law_more","_law_most"] BF (aK ph):=(by walk_at "c")
theorem Es(F:iT K "_law_another" "_law_another" ph f fd)(B:Bi mg)(aM:Ct P w K mg base k "_law_draw" AL gH)(uh:Ct P w K mg base k "_law_post" AM qQ)(km:Ct P w K mg base k "_law_small_post" AM qQ):bI P w K mg base gQ (k+1) f fd BF X4:=by
 refine F.ok sV (hbody:=(0:))
 obtain⟨a,n,v,x,rfl,tp,hn,av,hx,q⟩:=h;have ND:=sV.nd;refine⟨_,(aA (aW (i:=2) (pf aM hr (ao (pv 0) (ao aq ak)))) (aA (b_ (bc fW (pv 2) aq (bj _)) (aH (bw (pf uh hr (ao (pv 0) ak)))) bD) (aA (aW (i:=3) (cg (bc fW (pf aM hr (ao (pv 0) (ao aq ak))) aq (bj _)) (pf uh hr (ao (pv 0) ak)) (pf km hr (ao (pv 0) ak)))) (aA (b_ (bc fW (pv 2) aq (bj _)) (aA (aW (i:=4) (pf aM hr (ao (pv 0) (ao aq ak)))) (aH (aW (i:=3) (aO lC (aO lC (cR gY (pv 3) dN (dq aq)) (bx (ao (bx (ao (pf aM hr (ao (pv 0) (ao (aO bz (pv 4) aq) ak))) (ao (pv 4) ak))) ak))) (cR gY (pv 3) (dq aq) dN))))) bD) (aH (bw (aO lC (aO lC (cR gY (pv 1) dN (dq (pv 2))) (cR gY (pv 3) (dq (pv 2)) (dq (aO bz (pv 2) aq)))) (cR gY (pv 1) (dq (aO bz (pv 2) aq)) dN)))))))),?_⟩
 simp only[xO,sO 3];ext;refine cF.of tp ∅ ⋯ ⋯ fun d H1 d0 d1 t1 x1=>?_
 refine gR.of (R:=fun σ' H'=>d≠7/\σ'=[some (.ref a),some v,some (.int d),none,none]/\H'=H1) ?_ ?_
 rotate_left
 ·intro N hN;ext;refine cA (fun c=>?_) (fun c=>?_)
  ·exact⟨a,_,rfl,t1,∅,fun p x' H2 hx' a2 t2 x2=>q _ x' H2 hx' (a2.mono jH) (t2.mono ∅) (x1.trans x2)⟩
  ·exact hN _ _ ⟨by simpa using c,rfl,rfl⟩
 rintro σ1 H1' ⟨d7,rfl,rfl⟩;refine gR.of (R:=fun σ' H'=>∃p m,σ'=[some (.ref a),some v,some (.int d),some (.ref p),none]/\uz m/\At H' (dh m) (.ref p)/\Tp H' a (n+420)/\SX a H H') ?_ ?_
 rotate_left
 ·intro N hN;ext;refine cF.of t1 ∅ ⋯ ⋯ fun d2 H2 _ _ t2 x2=>?_
  ext;refine cA (fun c=>?_) (fun c=>?_)
  ·exact⟨a,_,rfl,t2,∅,fun p m H3 hm a3 t3 x3=>hN _ _ ⟨p,m,rfl,hm,a3.mono jH,t3.mono ∅,x1.trans (x2.trans x3)⟩⟩
  ·exact⟨a,_,rfl,t2,∅,fun p m H3 hm a3 t3 x3=>hN _ _ ⟨p,m,rfl,hm,a3.mono jH,t3.mono ∅,x1.trans (x2.trans x3)⟩⟩
 rintro σ2 H3 ⟨p,m,rfl,hm,a3,t3,x3⟩;refine gR.of (R:=fun σ' H'=>∃p m o4,σ'=[some (.ref a),some v,some (.int d),some (.ref p),o4]/\uz m/\At H' (dh m) (.ref p)/\Tp H' a (n+430)/\SX a H H') ?_ ?_
 rotate_left
 ·intro N hN;ext;refine cA (fun c=>?_) (fun c=>?_)
  ·refine cF.of t3 ∅ ⋯ ⋯ fun d4 H4 l4 u4 t4 x4=>?_
   obtain⟨p',w2,w5,w6,ep',e3,c2,c5,c6⟩:=uY a3;cases ep';have e4:=x4.get (t3.neT e3) e3;refine⟨p,_,rfl,e4,fun q1 G1 s1 g1=>⟨_,_,rfl,rfl,?_⟩⟩;refine cF.of (t4.same s1) ∅ ∅ ∅ fun d5 G2 l5 u5 t5 x5=>?_
   refine⟨⋯,fun q3 G3 f3 s3 g3=>⟨⋯,fun q4 G4 f4 s4 g4=>?_⟩⟩
   have n1:q1≠a:=(t4.same s1).neT g1;refine⟨q1,q4,_,_,rfl,rfl,(s3.trans s4) _ _ (x5.get n1 g1),g4,by show(3:Nat)<=sizeLine; decide,fun q5 G5 s5 g5=>?_⟩
   have Ys:=(s3.trans (s4.trans s5)) _ _ (x5.get (t3.neT e3) (s1 _ _ e4));refine⟨p,_,rfl,Ys,fun q6 G6 s6 g6=>⟨q5,q6,_,_,rfl,rfl,s6 _ _ g5,g6,by show(7:Nat)<=sizeLine; decide,fun q7 G7 s7 g7=>?_⟩⟩
   have k37:dH H3 G7:=(Js t3 x4).trans (s1.kp.trans ((Js (t4.same s1) x5).trans (s3.trans (s4.trans (s5.trans (s6.trans s7)))).kp));have g37:=(s4.trans (s5.trans (s6.trans s7))) _ _ g3;have tX:=(((((t5.same s3).same s4).same s5).same s6).same s7);have xX:SX a H G7:=x3.trans (x4.trans ((SX.of s1).trans (x5.trans (SX.of (s3.trans (s4.trans (s5.trans (s6.trans s7))))))));refine hN _ _ ⟨q7,{ m with lo:=d5,hi:=d4 },_,rfl,{ hm with lo:=⟨l5,by show d5<=d4; omega⟩,hi:=by show d4<=12; omega },R0 (x:={ m with lo:=d5,hi:=d4 }) g7 (At.tup g37 (bU [d5,d4])) (At.kp k37 _ _ rfl c5) (At.kp k37 _ _ (RK _) c6),tX.mono ∅,xX⟩
  ·exact hN _ _ ⟨p,m,none,rfl,hm,a3,t3.mono ∅,x3⟩
 rintro σ3 H5 ⟨p5,m5,o4,rfl,hm5,a5,t5,x5⟩;have k5:dH H H5:=Js tp x5;have av5:=At.kp k5 _ _ (g8 x) av;obtain⟨b,v2,v5,v6,rfl,eb,b2,b5,b6⟩:=uY av5;obtain⟨b',w2,w5,w6,eb0,eb',c2,c5,c6⟩:=uY a5;cases eb0;ext
 have mixed:∃u2 u5 u6 i,((rQ [V.int x.p,V.int x.m,v2,V.int x.a,V.int x.e,v5,v6] none (some d)++rQ [V.int m5.p,V.int m5.m,w2,V.int m5.a,V.int m5.e,w5,w6] (some d) (some (d+1)))++rQ [V.int x.p,V.int x.m,v2,V.int x.a,V.int x.e,v5,v6] (some (d+1)) none)=[.int (yV x m5 i).p,.int (yV x m5 i).m,u2,.int (yV x m5 i).a,.int (yV x m5 i).e,u5,u6]/\At H5 (.tuple [.int (yV x m5 i).lo,.int (yV x m5 i).hi]) u2/\At H5 (.tuple [.int (yV x m5 i).u,.int (yV x m5 i).d]) u5/\At H5 (m7 (yV x m5 i).gD) u6:=by
  have:d=0\/d=1\/d=2\/d=3\/d=4\/d=5\/d=6:=by omega
  rcases this with rfl | rfl | rfl | rfl | rfl | rfl | rfl
  ·exact⟨v2,v5,v6,0,rfl,b2,b5,b6⟩
  ·exact⟨v2,v5,v6,1,rfl,b2,b5,b6⟩
  ·exact⟨w2,v5,v6,2,rfl,c2,b5,b6⟩
  ·exact⟨v2,v5,v6,3,rfl,b2,b5,b6⟩
  ·exact⟨v2,v5,v6,4,rfl,b2,b5,b6⟩
  ·exact⟨v2,w5,v6,5,rfl,b2,c5,b6⟩
  ·exact⟨v2,v5,w6,6,rfl,b2,b5,c6⟩
 obtain⟨u2,u5,u6,i,em,y2,y5,y6⟩:=mixed;have L1:=jt [V.int x.p,V.int x.m,v2,V.int x.a,V.int x.e,v5,v6] none (some d);have L2':=jt [V.int m5.p,V.int m5.m,w2,V.int m5.a,V.int m5.e,w5,w6] (some d) (some (d+1));have L3:=jt [V.int x.p,V.int x.m,v2,V.int x.a,V.int x.e,v5,v6] (some (d+1)) none;simp only[fH,rm] at L1 L2' L3;refine⟨b,_,rfl,eb,fun q1 G1 s1 g1=>⟨p5,_,rfl,s1 _ _ eb',fun q2 G2 s2 g2=>⟨q1,q2,_,_,rfl,rfl,s2 _ _ g1,g2,jE (a_ ∅),fun q3 G3 s3 g3=>⟨b,_,rfl,(s1.trans (s2.trans s3)) _ _ eb,fun q4 G4 s4 g4=>⟨q3,q4,_,_,rfl,rfl,s4 _ _ g3,g4,jE (a_ (by rw[dg]; omega)),fun q5 G5 s5 g5=>?_⟩⟩⟩⟩⟩
 rw[em] at g5;have s55:=s1.trans (s2.trans (s3.trans (s4.trans s5)));exact q (.ref q5) (yV x m5 i) G5 (aaa hx hm5 i) (R0 g5 (y2.mono s55) (y5.mono s55) (y6.mono s55)) ((t5.same s55).mono ∅) (x5.trans (SX.of s55))
theorem Kw{K:Frag}{js:List Nat}{a:Addr}{ys:List V}{es:List PyData}{ta:TA}{te:TE}{σ:St}{H:Hp}{Q:VK}(hl:∀R:List V->Hp->Prop,R [.ref a] H->ta σ H R)(hb:H a=some (.lst ys))(n2:ys.length=es.length)(hz:es.length<=sizeLine)(hL:bH es=true)
  (val:∀(i:Nat) y e H',ys[i]?=some y->es[i]?=some e->aL H H'->∀R:VK,(∀v bO,aL H' bO->At bO e v->R v bO)->te (some (.int (i:Nat))::some y::bR js σ) H' R)
  (fin:∀acc zs H',aL H H'->H acc=none->H' acc=some (.lst zs)->aj (hid acc H') es zs->Q (.ref acc) H'):fP 2 js (Tq K ta) (Kp K 2 (jA (eO 0) (jA (eO 1) Bc))) wj te σ H Q:=by
 refine hl _ ⟨a,rfl,⟨ys,cG.of hb⟩,fun acc hacc=>?_⟩;have gy:∀i,i<es.length->ys[i]?=some (ys.getD i .non):=fun i hi=>by rw[iV,dC ∅]; rfl
 refine rR (es:=es) (fun i=>.int (i:Nat)) (fun i=>ys.getD i .non) hz hL hacc (fun i H' hi s=>⟨ys,_,cG.of (s _ _ hb),gy i hi⟩) (fun i H' v bO hi s y=>?_) (fun H' s=>⟨ys,cG.of (s _ _ hb),Nat.le_of_eq n2⟩) (fun i e H' he s R hR=>?_) fun zs H' s h1 h2=>fin acc zs H' s hacc h1 h2
 ·obtain⟨p,y,fp,e1,e2,h2⟩:=y;have q2:=h2 ys (cG.of (s _ _ hb));rw[gy i hi] at q2;cases q2;exact⟨p,fp,e1,e2⟩
 ·have hi:i<es.length:=by
   by_cases z:i<es.length
   ·exact z
   ·rw[List.getElem?_eq_none ∅] at he; cases he
  exact val i _ e H' (gy i hi) he s R hR
theorem aeO{ok:AA->Prop}{tb:QB}{ts:TS}{D:Ends}{σ:St}{H:Hp}(R:St->Hp->Prop)(hR:∀σ' H',R σ' H'->D.nx σ' H')(h:∀N:St->Hp->Prop,(∀σ' H',R σ' H'->N σ' H')->Lr ok tb ts { D with nx:=N } σ H):Lr ok tb ts D σ H:=h _ hR
def Zh(C:Addr):Sp:=fun vs H Q _=>∃(a:Ya)(y:Yd)(m:Addr)(ws:List Addr)(i:Nat)(v:V)(x:gm),vs=[.ref a.p,.ref m,.int y.tot,.int (i:Nat),v]/\bK C H a y/\fB y/\H m=some (.lst (ws.map V.ref))/\mz H ws y/\(∀c∈a.own,c∉ws)/\m∉a.own/\i<y.ns.length/\At H (dh x) v/\uz x /\
 ∀y' H',(y'=y\/y'={ y with ps:=y.ps.set i x })->fB y'->bK C H' a y'->mz H' ws y'->Fr (a.dp::ws) H H'->Q (.bl true) H'
theorem Gy:bf ["_law_yard_here","_law_model","_law_total","_law_at","_law_post_here","_law_least","_law_told","_law_refused"] BG (aK DY):=(by walk_at "c")
theorem SJ{C bQ:Addr}(F:iT K "_law_put" "_law_put" DY f fd)(B:Bi mg)(Z:ZL K mg bQ)(p_:Je P w K mg base k C "change" ["self","name","post"] (XN C bQ)):bI P w K mg base gQ (k+1) f fd BG (Zh C):=by
 refine F.ok Gy (hbody:=(0:))
 obtain⟨a,y,m,ws,i,v,x,rfl,YA,YO,em,M,dj,mo,hi,hv,hx,q⟩:=h;have ND:=Gy.nd;refine⟨_,(aA (j7 (i:=5) ND rfl (by walk_at "o") (nt:=2) (N':=["_law_k","_law_spot","_law_at","_law_post_here"]) (js:=[3,4]) rfl (Ej (K:=K) rfl B.enumerate (ao (pv 1) ak)) oA.of (fun fp s' H'=>(bL (K:=K) (n:=2) rfl rfl (aF (aGN BH 0) (aF (aGN BH 1) bG)))) (fun fp s' H'=>jh) (fun fp s' H'=>(cg (bc fW (pv 0) (pv 2) (bj _)) (bu aZ (bu aZ (pv 3) aq) aq) (bu aZ (bu aZ (bu aZ (pv 1) aq) aq) aq)))) (aA (cI (bx (ao fu (ao jo ak))) (bL (K:=K) (n:=2) rfl rfl (aF (aG (i:=6)) (aF (aG (i:=7)) bG)))) (aA (VP (K:=K) rfl (RZ (VN (i:=6) ND (afd p_ hr (pv 0) (ao (bu aZ (bu aZ (pv 1) (pv 3)) aq) (ao (pv 4) ak))))) (fun e=>(aH (aW (i:=7) jo))) Z.Oc) (aA (b_ (PW.pt (yC (bc Cy (pv 7) (eG pK (pb (dB rfl) B.sum jg (ao (pv 5) ak)) (pv 2) (bj _)) (bj _)) (rD (PW.pt (rE (jc (dX (pv 7))) (m9 (bc qj (pv 6) gf (bj _)))))))) (aH (bw jo)) bD) (aA (b_ (jc (dX (pv 7))) (aH (cI (pv 4) (jw (bu aZ (pv 1) (pv 3)) aq set_list))) bD) (aH (bw jo))))))),?_⟩
 simp only[xO];ext;have lM:=M.l;have n5:=YO.n5;have l1:=YO.lp;obtain⟨w,n,x0',o,st,t,g0,g1,g2,g3,g4,g5,D⟩:=M.get YO.L hi;refine Kw (es:=((y.ps.set i x).map gm.lo).map .int) (fun R hR=>by ext; exact hR) em (by simp only[bW,JN]; omega) (jE (a_ (by simp only[bW,JN]; omega))) (gk _) (fun j y0 e H' hy he s' R hR=>?_) fun acc zs H1 s1 f1 e1 a1=>?_
 ·rw[cM] at hy;cases ew:ws[j]? with
  | none=>rw[ew] at hy; cases hy
  | some w0=>
  rw[ew] at hy;cases hy;have hj:j<y.ns.length:=by rw[<- lM]; exact(iY.mp ew).1
  obtain⟨w',n',x',o',st',t',q0,q1,q2,q3,q4,q5,D'⟩:=(M.mono s').get YO.L hj;rw[ew] at q0;cases q0;rw[cM,cM,OD] at he;show tIf _ _ _ [some (.int (j:Nat)),some (.ref w0),some (.int (i:Nat)),some v] H' R;ext;refine cA (fun c=>?_) (fun c=>?_)
  ·have ji:j=i:=by have:=rC c; omega
   rw[aX ji.symm,aX ∅] at he
   cases he;obtain⟨pa,pb,pc,pd,rfl,k1,k2,_,_⟩:=yD (hv.mono s');exact Ix.tup k1 (aV (j:=2) rfl) (Ix.tup k2 (aV (j:=0) rfl) (hR _ _ (aL.refl _) (At.int _)))
  ·have ji:¬i=j:=by have:=wA c; omega
   rw[aQ ji,q2] at he;cases he;obtain⟨pv,sv,cv,d1,d2,d3,d4⟩:=D'.ex;obtain⟨pa,pb,pc,pd,rfl,k1,k2,_,_⟩:=yD d2;exact Ix.lst d1 (aV (j:=1) rfl) (Ix.tup k1 (aV (j:=2) rfl) (Ix.tup k2 (aV (j:=0) rfl) (hR _ _ (aL.refl _) (At.int _))))
 have:=cz a1;subst this;refine⟨⋯,fun p2 H2 f2 s2 e2=>⟨p2,_,rfl,eX.of e2,rfl,?_⟩⟩
 have s12:=s1.trans s2;have wm:zV (ws.map V.ref) ((i:Nat):Int)=some (.ref w):=aV (j:=i) (by rw[cM,g0]; rfl)
 obtain⟨pv,sv,cv,d1,d2,d3,d4⟩:=D.ex;ext;have Y2:=YA.mono s12;refine aeO (R:=fun σ' H'=>∃b tv,σ'=[some (.ref a.p),some (.ref m),some (.int y.tot),some (.int (i:Nat)),some v,some (.ref acc),some tv,some (.bl b)]/\b=decide (y.tot<((y.ps.set i x).map gm.lo).sum)/\((b=true/\aL H2 H')\/(b=false/\tv=.non/\bK C H' a { y with ps:=y.ps.set i x }/\Fr [a.dp] H2 H'))) ?_ ?_
 ·rintro σ' H3 ⟨b,tv,rfl,hb,h3⟩
  have W6:Fr [a.dp] H2 H3:=by
   rcases h3 with⟨_,s3⟩ | ⟨_,_,_,f3⟩
   ·exact s3.fr _
   ·exact f3
  have dpO:a.dp∈a.own:=by unfold Ya.own; simp
  have al:∃o,H a.dp=some o/\∀xs,o≠.tup xs:=YA.al a.dp dpO;obtain⟨odp,edp,ndp⟩:=al
  have kp3:dH H2 H3:=W6.kp fun c hc xs e=>by
   rw[iU.mp hc,s12 _ _ edp] at e;cases e;exact ndp _ rfl
  have acd:acc≠a.dp:=fun z=>by rw[z,edp] at f1; cases f1
  have Nz:H3 acc=some (.lst (((y.ps.set i x).map gm.lo).map V.int)):=W6 _ _ (s2 _ _ e1) (by simpa using acd)
  have mdp:m≠a.dp:=fun z=>mo (z▸dpO);have em3:H3 m=some (.lst (ws.map V.ref)):=W6 _ _ (s12 _ _ em) (by simpa using mdp)
  have wdp:∀w∈ws,w≠a.dp:=fun w hw z=>dj _ dpO (z▸hw);have M3:mz H3 ws y:=(M.mono s12).kp kp3 fun w hw xs e=>W6 _ _ e (by simpa using wdp w hw)
  have frH:Fr (a.dp::ws) H H3:=(s12.fr _).trans (W6.sub fun c hc=>.inl (by rw[iU.mp hc]; simp))
  dsimp only;refine gR.of (R:=fun YK bO=>YK=[some (.ref a.p),some (.ref m),some (.int y.tot),some (.int (i:Nat)),some v,some (.ref acc),some tv,some (.bl b)]/\H3=bO) ?_ ?_
  ·rintro YK bO ⟨rfl,rfl⟩;refine gR.of (R:=fun YK bO=>∃y',(y'=y\/y'={ y with ps:=y.ps.set i x })/\fB y'/\bK C bO a y'/\mz bO ws y'/\Fr (a.dp::ws) H bO) ?_ ?_
   ·rintro σ4 H4 ⟨y',h1,h2,h3,h4,h5⟩;ext;exact q y' H4 h1 h2 h3 h4 h5
   ·intro N hN;ext;rcases h3 with⟨rfl,s3⟩ | ⟨rfl,rfl,Y3,f3⟩
    ·rw[aQ ⋯]
     exact hN _ _ ⟨y,.inl rfl,YO,Y2.mono s3,M3,frH⟩
    ·rw[aX ⋯]
     have hs:((y.ps.set i x).map gm.lo).sum<=y.tot:=by
      have:=wA hb.symm;omega
     have J9:w≠a.dp:=wdp w (dz g0);have dw:=W6 _ _ (s12 _ _ d1) (by simpa using J9)
     refine Ix.lst em3 wm ⟨w,_,1,1,rfl,rfl,dw,rfl,hN _ _ ⟨{ y with ps:=y.ps.set i x },.inr rfl,?_,?_,?_,?_⟩⟩
     ·refine { YO with lp:=by show(y.ps.set i x).length=_; rw[JN]; exact YO.lp,pg:=fun z hz=>?_,lm:=hs }
      rcases RT hz with h | h
      ·exact YO.pg z h
      ·rw[h]; exact hx
     ·exact Y3.keep (dH.putL dw) fun c hc o e=>by
       have hcw:c≠w:=fun z=>dj c hc (by rw[z]; exact dz g0)
       rw[aJ hcw]; exact e
     ·have k4:dH H3 (upd H3 w (.lst ([V.str n,pv,lD o,sv,cv].set 1 v))):=dH.putL dw;refine⟨M.l,M.nd,fun j w2 n2 x2 o2 st2 t2 h1 h2 h3 h4 h5 h6=>?_⟩
      replace h3:(y.ps.set i x)[j]?=some x2:=h3
      rw[OD] at h3;by_cases ji:i=j
      ·subst ji;rw[g0] at h1; cases h1;rw[show({ y with ps:=y.ps.set i x }:Yd).ns=y.ns from rfl,g1] at h2; cases h2
       rw[aX rfl,aX ∅] at h3
       cases h3;rw[show({ y with ps:=y.ps.set i x }:Yd).os=y.os from rfl,g3] at h4; cases h4
       rw[show({ y with ps:=y.ps.set i x }:Yd).ss=y.ss from rfl,g4] at h5; cases h5
       rw[show({ y with ps:=y.ps.set i x }:Yd).ts=y.ts from rfl,g5] at h6; cases h6
       have k04:=s12.kp.trans (kp3.trans k4);exact⟨⟨v,sv,cv,aB,At.kp k04 _ _ (g8 _) hv,At.kp k04 _ _ (jD _) d3,At.kp k04 _ _ (sy _) d4⟩⟩
      ·rw[aQ ji] at h3;refine(M3.g j w2 n2 x2 o2 st2 t2 h1 h2 h3 h4 h5 h6).kp k4 fun xs' e=>?_;rw[aJ (fun z=>ji ((List.getElem?_inj (iY.mp g0).1 M.nd).mp (by rw[g0,<- z]; exact h1.symm)))]
       exact e
     ·exact fun c o' e nc=>by
       rw[aJ (fun z=>nc (by rw[z]; exact jb _ (dz g0)))]
       exact frH c o' e nc
  ·intro N hN;ext;refine⟨acc,_,rfl,.inl Nz,rfl,_,rfl,?_⟩;rw[aQ (by rw[<- hb]; simp)]
   rcases h3 with⟨rfl,s3⟩ | ⟨rfl,rfl,Y3,f3⟩
   ·rw[aQ ⋯]
    exact hN _ _ ⟨rfl,rfl⟩
   ·rw[aX ⋯]
    exact⟨trivial,by rw[aQ ⋯]; exact hN _ _ ⟨rfl,rfl⟩⟩
 ·intro N hN;unfold Lr;ext;refine Me.of (m:="change") (R:=fun p=>_) Y2 (fun _ _ _ _ _ _ _=>rfl) ?_;refine Ix.lst (s12 _ _ em) wm (Ix.lst (s12 _ _ d1) (aV (j:=0) rfl) ?_);exact⟨a,y,i,n,v,x,rfl,Y2,YO,g1,hv.mono s12,fun hs H3 Y3 f3=>hN _ _ ⟨false,.non,rfl,(mJ ∅).symm,.inr ⟨rfl,rfl,Y3,f3⟩⟩,fun hs H3 s3=>⟨Z.Kv,fun a2 H4 s4 _=>hN _ _ ⟨true,_,rfl,(jF hs).symm,.inl ⟨rfl,s4 s3⟩⟩⟩⟩
section
variable{C a:Addr}{H0 H' bO:Hp}{m m':Nat}{A:Ya}{y y':Yd}{ls:List (Addr×List V)}
theorem WD.both(W:WD C a H0 m [(A,y)] ls H'){S:List Addr}{ls':List (Addr×List V)}(f:Fr S H' bO)(hS:∀b∈S,b∈A.own\/∃vs,(b,vs)∈ls)(new:bK C bO A y')(YO:fB y')(h':∀l∈ls',(∃vs,(l.1,vs)∈ls)/\bO l.1=some (.lst l.2)):WD C a H0 m [(A,y')] ls' bO/\dH H' bO:=by
 have YA:=W.ys.at_ (A,y) (by simp)
 have fo:=W.fo (A,y) (by simp)
 have kp:dH H' bO:=f.kp fun b hb xs e=>by
  rcases hS b hb with h | ⟨vs,h⟩
  ·obtain⟨o,eo,no⟩:=YA.al b h;rw[eo] at e; cases e; exact no _ rfl
  ·rw[(W.lo _ h).2.2] at e; cases e
 refine⟨⟨⟨fun z hz=>?_,fun j k z z' h1 h2 ne c hc=>?_⟩,fun z hz=>?_,fun z hz c hc=>?_,fun l hl=>?_,?_,?_⟩,kp⟩
 ·rw[iU.mp hz]; exact new
 ·have e1:=(iY.mp h1).1;have e2:=(iY.mp h2).1;simp only[fH,rm] at e1 e2;omega
 ·rw[iU.mp hz]; exact YO
 ·rw[iU.mp hz] at hc;refine⟨(fo c hc).1,(fo c hc).2.1,fun l hl=>?_⟩;obtain⟨vs,h⟩:=(h' l hl).1;exact(fo c hc).2.2 (l.1,vs) h
 ·obtain⟨vs,h⟩:=(h' l hl).1;exact⟨(W.lo _ h).1,(W.lo _ h).2.1,(h' l hl).2⟩
 ·obtain⟨u1,u2,u3,eu,r⟩:=W.tp;refine⟨u1,u2,u3,f _ _ eu fun h=>?_,r⟩;rcases hS _ h with h | ⟨vs,h⟩
  ·exact(fo _ h).2.1 rfl
  ·exact(W.lo _ h).2.1 rfl
 ·intro b o e;obtain⟨b1,b2⟩:=iM e;rw[cP b1];refine f _ _ (W.sx.get b1 b2) fun h=>?_;rcases hS _ h with h | ⟨vs,h⟩
  ·rw[(fo _ h).1] at b2; cases b2
  ·rw[(W.lo _ h).1] at b2; cases b2
theorem WD.norm{zs:List (Ya×Yd)}(W:WD C a H0 m zs ls H'):WD C a H0 m zs (S7 (ls.map (·.1)) H') H':=W.less fun l hl=>by
 obtain⟨b,hb,rfl⟩:=cV.mp hl;obtain⟨l0,h0,rfl⟩:=cV.mp hb;rw[CN (W.lo l0 h0).2.2];exact h0
end
structure LJ(C a:Addr)(H0:Hp)(M:Nat)(rl:Addr)(us:List V)(ts:List T3)(md:Addr)(ws:List Addr)(tot:Int)(i:Nat)(A:Ya)(y:Yd)(os:List Addr)(H':Hp):Prop where
 W:WD C a H0 M [(A,y)] (S7 os H') H'
 o2:rl∈os
 o3:md∈os
 o5:∀w∈ws,w∈os
 e2:H' rl=some (.lst us)
 e3:H' md=some (.lst (ws.map V.ref))
 au:aj H' (ts.map Ju) us
 mo:mz H' ws y
 nd:(rl::md::ws).Nodup
 yn:y.ns=ts.map (·.1)
 yt:y.tot=tot
 tt:∀s∈y.ss,0<=s.t
 yp:y.pa.length=i
section
variable{C a rl md:Addr}{H0 H' bO:Hp}{M m' i:Nat}{us:List V}{ts:List T3}{ws os:List Addr}{tot:Int}{A:Ya}{y y':Yd}
theorem LJ.ls(L:LJ C a H0 M rl us ts md ws tot i A y os H'){b:Addr}(h:b∈os):∃vs,H' b=some (.lst vs)/\(b,vs)∈S7 os H':=by
 have:=(L.W.lo (b,lc H' b) (cV.mpr ⟨b,h,rfl⟩)).2.2;exact⟨_,this,WT.mem h this⟩
theorem LJ.xF(L:LJ C a H0 M rl us ts md ws tot i A y os H')(x:SX a H' bO)(t:Tp bO a m'):LJ C a H0 m' rl us ts md ws tot i A y os bO:=by
 have W:=L.W.xF x t;have k:dH H' bO:=Js L.W.tp x;have g:∀{b vs},b∈os->H' b=some (.lst vs)->bO b=some (.lst vs):=fun h e=>(W.lo _ (WT.mem h e)).2.2;refine⟨W.norm.less fun l hl=>?_,L.o2,L.o3,L.o5,g L.o2 L.e2,g L.o3 L.e3,aj.kp k _ _ (mX _) L.au,L.mo.kp k fun w hw xs e=>g (L.o5 w hw) e,L.nd,L.yn,L.yt,L.tt,L.yp⟩;obtain⟨b,hb,rfl⟩:=cV.mp hl;exact cV.mpr ⟨b,cV.mpr ⟨(b,lc H' b),cV.mpr ⟨b,hb,rfl⟩,rfl⟩,rfl⟩
theorem LJ.grow(L:LJ C a H0 M rl us ts md ws tot i A y os H')(s:aL H' bO):LJ C a H0 M rl us ts md ws tot i A y os bO:=L.xF (SX.of s) (L.W.tp.same s)
theorem LJ.put(L:LJ C a H0 M rl us ts md ws tot i A y os H'){S:List Addr}(hy:y'.ns=y.ns/\y'.ss=y.ss/\y'.tot=y.tot/\y'.pa=y.pa)(YO:fB y')(new:bK C bO A y')(mo:mz bO ws y')(f:Fr S H' bO)(hS:∀b∈S,b∈A.own\/b∈ws):LJ C a H0 M rl us ts md ws tot i A y' os bO/\dH H' bO:=by
 have nd:=L.nd;simp only[jY,bN,not_or] at nd;obtain⟨⟨n1,n2⟩,n3,n4⟩:=nd;have fo:=L.W.fo (A,y) (by simp)
 have nw:∀w∈ws,∃vs,bO w=some (.lst vs):=fun w hw=>by
  obtain⟨j,hj⟩:=Aj hw;obtain⟨w',_,_,_,_,_,g0,_,_,_,_,_,D⟩:=mo.get YO.L (i:=j) (by have:=(iY.mp hj).1; have:=mo.l; omega)
  rw[hj] at g0; cases g0;obtain⟨_,_,_,d1,_⟩:=D.ex;exact⟨_,d1⟩
 have keep:∀b∈os,b∉ws->∀vs,H' b=some (.lst vs)->bO b=some (.lst vs):=fun b hb hn vs e=>f _ _ e fun h=>by
  rcases hS b h with h | h
  ·exact(fo b h).2.2 _ (WT.mem hb e) rfl
  ·exact hn h
 have key:∀b∈os,∃vs,bO b=some (.lst vs):=fun b hb=>by
  by_cases h:b∈ws
  ·exact nw b h
  ·obtain⟨vs,e,_⟩:=L.ls hb;exact⟨vs,keep b hb h vs e⟩
 obtain⟨W,k⟩:=L.W.both (ls':=S7 os bO) f (fun b hb=>by
  rcases hS b hb with h | h
  ·exact .inl h
  ·obtain⟨vs,_,e⟩:=L.ls (L.o5 b h)
   exact .inr ⟨vs,e⟩) new YO (fun l hl=>by
  obtain⟨b,hb,rfl⟩:=cV.mp hl;obtain⟨vs,_,e⟩:=L.ls hb;obtain⟨vs',e'⟩:=key b hb
  exact⟨⟨vs,e⟩,by show bO b=some (.lst (lc bO b)); rw[CN e']; exact e'⟩)
 exact⟨⟨W,L.o2,L.o3,L.o5,keep _ L.o2 n2 _ L.e2,keep _ L.o3 n3 _ L.e3,aj.kp k _ _ (mX _) L.au,mo,L.nd,by rw[hy.1]; exact L.yn,by rw[hy.2.2.1]; exact L.yt,by rw[hy.2.1]; exact L.tt,by rw[hy.2.2.2]; exact L.yp⟩,k⟩
theorem LJ.pt(L:LJ C a H0 M rl us ts md ws tot i A y os H'){j:Nat}{v:V}{x:gm}{Q:VK}{E:XK}(hj:j<y.ns.length)(hv:At H' (dh x) v)(hx:uz x)
  (q:∀y' H2,(y'=y\/y'={ y with ps:=y.ps.set j x })->LJ C a H0 M rl us ts md ws tot i A y' os H2->dH H' H2->Q (.bl true) H2):Zh C [.ref A.p,.ref md,.int tot,.int (j:Nat),v] H' Q E:=by
 have fo:=L.W.fo (A,y) (by simp)
 have nw:∀c∈A.own,c∉os:=fun c hc h=>by
  obtain⟨vs,_,e⟩:=L.ls h;exact(fo c hc).2.2 _ e rfl
 have dpO:A.dp∈A.own:=by unfold Ya.own; simp
 refine⟨A,y,md,ws,j,v,x,by rw[L.yt],L.W.ys.at_ (A,y) (by simp),L.W.yo (A,y) (by simp),L.e3,L.mo,fun c hc h=>nw c hc (L.o5 c h),fun h=>nw _ h L.o3,hj,hv,hx,fun y' H2 hy YO' Y' M' f=>?_⟩
 obtain⟨L',k⟩:=L.put (y':=y') (by rcases hy with rfl | rfl <;> exact⟨rfl,rfl,rfl,rfl⟩) YO' Y' M' f (fun b hb=>by
  rcases bN.mp hb with h | h
  ·rw[h]; exact .inl dpO
  ·exact .inr h)
 exact q y' H2 hy L' k
end
def ab2(C:Addr):Sp:=fun vs H Q _=>∃(a:Addr)(n:Nat),vs=[.ref a]/\Tp H a n/\n<=100000/\∀H' m,Tp H' a m->SX a H H'->Q (.bl true) H'
theorem vI:bf ["_law_tape_here","_law_total","_law_rows","_law_stands_here","_law_yard_here","_law_model","_law_beats","_law_turn","_law_way","_law_at","_law_there","_law_post_here","_law_comes_here"] AM (aK qT):=(by walk_at "c")
theorem HH{C:Addr}(F:iT K "_law_walked" "_law_walked" qT f fd)(B:Bi mg)(Z:ZY K C)(aM:Ct P w K mg base k "_law_draw" AL gH)(Uk:Ct P w K mg base k "_law_yard" AM ab1)(KQ:Ct P w K mg base k "_law_stands" AY XS)(Qu:Ct P w K mg base k "_law_begun" BC ab4)(Ir:Ct P w K mg base k "_law_another" BF X4)(N7:Ct P w K mg base k "_law_put" BG (Zh C))(KN:Ct P w K mg base k "_law_turned" BD XR)(Qt:Ct P w K mg base k "_law_comes" AZ Zk)(mR:Ct P w K mg base k "_law_same" Ap (Rr 6))(KR:Ct P w K mg base k "_law_as_due" BE (ab5 C))(K9:CtK P w K mg base k C "Yard" AT (Jx C))(nH:zY P w K mg base k C "beat" ["self","comes"] (Zf C)):bI P w K mg base gQ (k+1) f fd AM (ab2 C):=by
 refine F.ok vI (hbody:=(0:))
 obtain⟨a,n,rfl,tp,hn,q⟩:=h;have ND:=vI.nd;refine⟨_,(aA (cI (pf Uk hr (ao (pv 0) ak)) (bL (K:=K) (n:=2) rfl rfl (aF (aG (i:=1)) (aF (aG (i:=2)) bG)))) (aA (aW (i:=3) (pf KQ hr (ao (pv 0) (ao (pv 1) (ao (pv 2) ak))))) (aA (Mw (i:=4) (j:=5) (l:=6) rfl ND rfl rfl rfl rfl rfl rfl (ao (pk K9 hr (ao (pv 1) (ao (pt (vm) B.list jK (ao (pv 2) ak)) (ao (pv 3) ak)))) (ao (pf Qu hr (ao (pv 2) (ao (pv 3) ak))) (ao aq ak))) (by rfl)) (aA (gK PassesOwn.never rfl (dJ (by rfl) B.range (ao aq ak)) (aG (i:=7)) (aA (pJ (i:=8) (j:=9) rfl ND rfl rfl ⋯ rfl rfl (ao (pf aM hr (ao (pv 0) (ao aq ak))) (ao (pf aM hr (ao (pv 0) (ao (pb (cX (K:=K) rfl) B.len fQ (ao (pv 2) ak)) ak))) ak)) (by rfl)) (aA (aW (i:=10) (bu aZ (bu aZ (pv 5) (pv 9)) aq)) (aA (aW (i:=11) (pf Ir hr (ao (pv 0) (ao (pv 10) ak)))) (aA (b_ (PW.pt (rE (bc qI (pv 8) aq (bj _)) (m9 (jc (dX (pf N7 hr (ao (pv 4) (ao (pv 5) (ao (pv 1) (ao (pv 9) (ao (pv 11) ak))))))))))) (aH (bw jo)) bD) (aA (b_ (PW.pt (rE (bc fW (pv 8) aq (bj _)) (m9 (jc (dX (pf N7 hr (ao (pv 4) (ao (pv 5) (ao (pv 1) (ao (pv 9) (ao (pv 10) ak))))))))))) (aH (bw jo)) bD) (aA (b_ (bc pK (pv 8) aq (bj _)) (aA (aW (i:=12) (pf Qt hr (ao (pv 0) (ao (dR (N':=["_law_row_here"]) (js:=[]) rfl (bM (K:=K) rfl (pv 2)) sr.Wy rfl ⋯ rfl (fun fp s' H'=>(bu aZ (pv 0) aq))) ak)))) (aA (b_ (jc (dX (pf mR hr (ao (pm nH hr (pv 4) (ao (pv 12) ak)) (ao (pf KN hr (ao (pv 5) (ao (pv 1) (ao (pv 12) ak)))) ak))))) (aH (bw jo)) bD) (aH (aW (i:=6) (aO bz (pv 6) aq))))) bD) (aH (b_ (jc (dX (pf KR hr (ao (pv 4) (ao (pv 5) (ao (pv 6) ak)))))) (aH (bw jo)) bD))))))))) (aH (bw jo)))))),?_⟩
 have V1:WD C a H n [] [] H:=⟨⟨by simp,by simp⟩,by simp,by simp,by simp,tp,SX.refl _ _⟩
 refine Zq (fun σ H2=>∃tot rl us ts,σ=[some (.ref a),some (.int tot),some (.ref rl),none,none,none,none,none,none,none,none,none,none]/\aj H2 (ts.map Ju) us/\QD tot ts/\(∀x∈ts,uz x.2.1)/\tot<=60/\rl≠a/\WD C a H (n+3000) [] [(rl,us)] H2) ?_ ?_
 rotate_left
 ·intro N hN;ext;refine⟨a,n,rfl,tp,∅,fun pr rl tot ts us H2 ep f1 qa e1 a1 T hps h60 t1 x1=>?_⟩
  refine⟨pr,_,rfl,eX.of ep,rfl,?_⟩;ext;exact hN _ _ ⟨tot,rl,us,ts,rfl,a1,T,hps,h60,qa,V1.acF f1 x1 t1 e1⟩
 rintro σ H2 ⟨tot,rl,us,ts,rfl,a1,T,hps,h60,nra,V2⟩;refine Zq (fun σ H3=>∃sv ss,σ=[some (.ref a),some (.int tot),some (.ref rl),some sv,none,none,none,none,none,none,none,none,none]/\aj H3 (ts.map Ju) us/\((sv=.non/\ss=ts.map fun x=>gM x.2.1)\/∃l zs,sv=.ref l/\H3 l=some (.lst zs)/\aj H3 (ss.map n_) zs)/\ss.length=ts.length/\(∀z∈ss,Jd z/\0<=z.t)/\hands ss<=tot/\WD C a H (n+3400) [] [(rl,us)] H3) ?_ ?_
 rotate_left
 ·intro N hN;ext;have lt:=a1.length;rw[bW] at lt;have T5:=T.n5;have e1:=(V2.lo _ (iK ..)).2.2;refine⟨a,_,tot,rl,us,rfl,V2.tp,∅,nra,e1,∅,fun sv H3 hsv t3 x3=>?_⟩
  have V3:=V2.xF x3 t3
  obtain⟨ss,afM,hls,hSS,hhs⟩:∃ss:List jk,((sv=.non/\ss=ts.map fun x=>gM x.2.1)\/∃l UL,sv=.ref l/\H3 l=some (.lst UL)/\aj H3 (ss.map n_) UL)/\ss.length=ts.length/\(∀z∈ss,Jd z/\0<=z.t)/\hands ss<=tot:=by
   rcases hsv with h | ⟨l,UL,ss,h1,_,_,h2,h3,h4,h5,h6⟩
   ·refine⟨_,.inl ⟨h,rfl⟩,by rw[bW],fun z hz=>?_,by rw[v_ hps]; exact T.lm⟩
    obtain⟨x,hx,rfl⟩:=cV.mp hz;exact⟨(Ny (hps x hx)).1,Int.le_refl _⟩
   ·exact⟨ss,.inr ⟨l,UL,h1,h2,h3⟩,∅,h5,h6⟩
  exact hN _ _ ⟨sv,ss,rfl,aj.kp (Js V2.tp x3) _ _ (mX _) a1,afM,hls,hSS,hhs,V3⟩
 rintro σ H3 ⟨sv,ss,rfl,a3,hsv,hls,hSS,hhs,V3⟩;have T5:=T.n5;have T1:=T.n1;have nn:=T.nn;refine Zq (fun σ H7=>∃A md ws os y,σ=[some (.ref a),some (.int tot),some (.ref rl),some sv,some (.ref A.p),some (.ref md),some (.int (0:Nat)),none,none,none,none,none,none]/\LJ C a H (n+3400) rl us ts md ws tot 0 A y os H7) ?_ ?_
 rotate_left
 ·intro N hN;ext;have e1:=(V3.lo _ (iK ..)).2.2;refine⟨rl,us,rfl,e1,fun p2 f2=>?_⟩;have s2:=aP f2 (HO.lst us);have e2:upd H3 p2 (.lst us) p2=some (.lst us):=aB;generalize upd H3 p2 (.lst us)=H4 at s2 e2 ⊢;have V4:=V3.grow s2
  have acT:(sv=.non/\ss=ts.map fun x=>gM x.2.1)\/∃l zs,sv=.ref l/\H4 l=some (.lst zs)/\aj H4 (ss.map n_) zs:=by
   rcases hsv with h | ⟨l,zs,h1,h2,h3⟩
   ·exact .inl h
   ·exact .inr ⟨l,zs,h1,s2 _ _ h2,h3.mono s2⟩
  refine Wx V4 e2 (a3.mono s2) T hps acT hls (fun z hz=>(hSS z hz).1) hhs fun A H5 s5 V5=>?_;have V5:WD C a H (n+3400) [(A,Ib tot ts ss)] [(rl,us)] H5:=V5
  have afL:(sv=.non/\ss=ts.map fun x=>gM x.2.1)\/∃l zs,sv=.ref l/\H5 l=some (.lst zs)/\aj H5 (ss.map n_) zs:=by
   rcases acT with h | ⟨l,zs,h1,h2,h3⟩
   ·exact .inl h
   ·exact .inr ⟨l,zs,h1,s5 _ _ h2,h3.mono s5⟩
  refine⟨rl,us,ts,sv,ss,tot,rfl,(s2.trans s5) _ _ e1,(a3.mono s2).mono s5,afL,hls,T5,fun md ws H6 f6 nm wn s6 e6 M6=>?_⟩;have YO:=Yi T hps hls (fun z hz=>(hSS z hz).1) hhs
  have wl:∀w∈ws,∃vs,H6 w=some (.lst vs):=fun w hw=>by
   obtain⟨j,hj⟩:=Aj hw;obtain⟨w',_,_,_,_,_,g0,_,_,_,_,_,D⟩:=M6.get YO.L (i:=j) (by have:=(iY.mp hj).1; have:=M6.l; omega)
   rw[hj] at g0; cases g0;obtain⟨_,_,_,d1,_⟩:=D.ex;exact⟨_,d1⟩
  have V6:=V5.adds s6 (ls2:=(md,ws.map V.ref)::ws.map fun w=>(w,lc H6 w)) (fun l hl=>by
   rcases bN.mp hl with rfl | h
   ·exact⟨f6,e6⟩
   ·obtain⟨w,hw,rfl⟩:=cV.mp h;obtain⟨vs,e⟩:=wl w hw
    exact⟨wn w hw,by show H6 w=some (.lst (lc H6 w)); rw[CN e]; exact e⟩)
  have ac9:=(V5.lo _ (iK ..)).2.2;refine⟨_,_,_,rfl,hN _ _ ⟨A,md,ws,_,Ib tot ts ss,rfl,V6.norm,?_,?_,fun w hw=>?_,(s2.trans (s5.trans s6)) _ _ e1,e6,a3.mono (s2.trans (s5.trans s6)),M6,?_,rfl,rfl,fun z hz=>(hSS z hz).2,rfl⟩⟩
  ·simp
  ·simp
  ·simp[hw]
  ·simp only[jY,bN,not_or];refine⟨⟨fun z=>?_,fun z=>?_⟩,nm,M6.nd⟩
   ·rw[<- z,ac9] at f6; cases f6
   ·have:=wn _ z; rw[ac9] at this; cases this
 rintro σ H7 ⟨A,md,ws,os,y0,rfl,L0⟩;clear hsv hhs hSS hls V1 V2 V3 a1 a3;simp only[qP];rw[sE];ext;refine FK.ofN (n:=16) rfl ∅ (fun i σ H'=>∃b y A os o7 o8 o9 Z3 Z2 Pk,σ=[some (.ref a),some (.int tot),some (.ref rl),some sv,some (.ref A.p),some (.ref md),some (.int (b:Nat)),o7,o8,o9,Z3,Z2,Pk]/\b<=i/\LJ C a H (n+3400+1000*i) rl us ts md ws tot b A y os H') ⟨0,y0,A,os,_,_,_,_,_,_,rfl,bJ _,L0⟩ ?_ ?_
 ·clear L0 y0 A os;rintro i σ H8 hi ⟨b,y,A,os,o7,o8,o9,Z3,Z2,Pk,rfl,hb,L⟩ M hM;simp only[xO];ext;have lM:=L.mo.l;have yn:=L.yn;have ln:y.ns.length=ts.length:=by rw[yn,bW]
  have lu:=L.au.length;rw[bW] at lu;refine cF.of L.W.tp ∅ ⋯ ⋯ fun wy H9 w0 w5 t9 x9=>?_
  have L:=L.xF x9 t9;refine⟨rl,_,rfl,.inl (cG.of L.e2),?_⟩;refine cF.of L.W.tp ∅ ∅ ∅ fun at' HA a0 a1 tA xA=>?_
  have L:=L.xF xA tA;obtain⟨j,rfl⟩:∃j:Nat,at'=(j:Int):=⟨at'.toNat,∅⟩
  have hj:j<y.ns.length:=by omega
  have YO:fB y:=L.W.yo (A,y) (by simp)
  obtain⟨w,nm,x0,o,st,t,g0,g1,g2,g3,g4,g5,D⟩:=L.mo.get YO.L hj;obtain⟨pv,sv',cv,d1,d2,d3,d4⟩:=D.ex;have wm:zV (ws.map V.ref) ((j:Nat):Int)=some (.ref w):=aV (j:=j) (by rw[cM,g0]; rfl)
  have hx0:=YO.pg _ (dz g2);refine⟨_,_,rfl,Ix.lst L.e3 wm (Ix.lst d1 (aV (j:=1) rfl) ?_)⟩;refine⟨a,_,pv,x0,rfl,L.W.tp,∅,d2,hx0,fun v' x' HB hx' av' tBq xB=>?_⟩
  have kB:=Js L.W.tp xB;have L:=L.xF xB tBq;have pB:=At.kp kB _ _ (g8 _) d2;refine gR.of (R:=fun σ' H'=>∃y',σ'=[some (.ref a),some (.int tot),some (.ref rl),some sv,some (.ref A.p),some (.ref md),some (.int (b:Nat)),some (.int (i:Nat)),some (.int wy),some (.int (j:Nat)),some pv,some v',Pk]/\y'.ns=y.ns/\LJ C a H (n+3400+1000*i+1+1+900) rl us ts md ws tot b A y' os H'/\dH HB H') ?_ ?_
  rotate_left
  ·intro N hN;ext;refine cA (fun c=>?_) (fun c=>?_)
   ·refine L.pt hj av' hx' fun y' H2 hy L' k'=>⟨true,rfl,?_⟩;rw[aQ ⋯]
    refine hN _ _ ⟨y',by rw[yw],?_,L',k'⟩
    rcases hy with rfl | rfl <;> rfl
   ·exact hN _ _ ⟨y,by rw[yw],rfl,L,fun _ _ h=>h⟩
  rintro σ1 H2 ⟨y1,rfl,yn1,L1,k1⟩;refine gR.of (R:=fun σ' H'=>∃y',σ'=[some (.ref a),some (.int tot),some (.ref rl),some sv,some (.ref A.p),some (.ref md),some (.int (b:Nat)),some (.int (i:Nat)),some (.int wy),some (.int (j:Nat)),some pv,some v',Pk]/\y'.ns=y.ns/\LJ C a H (n+3400+1000*i+1+1+900) rl us ts md ws tot b A y' os H') ?_ ?_
  rotate_left
  ·intro N hN;ext;refine cA (fun c=>?_) (fun c=>?_)
   ·refine L1.pt (by rw[yn1]; exact hj) (At.kp k1 _ _ (g8 _) pB) hx0 fun y' H2 hy L' k'=>⟨true,rfl,?_⟩
    rw[aQ ⋯]
    refine hN _ _ ⟨y',rfl,?_,L'⟩;rcases hy with rfl | rfl <;> exact yn1
   ·exact hN _ _ ⟨y1,rfl,yn1,L1⟩
  rintro σ2 H3 ⟨y2,rfl,yn2,L2⟩;clear L L1;refine gR.of (R:=fun σ' H'=>∃b' y' A' os' Pk,σ'=[some (.ref a),some (.int tot),some (.ref rl),some sv,some (.ref A'.p),some (.ref md),some (.int (b':Nat)),some (.int (i:Nat)),some (.int wy),some (.int (j:Nat)),some pv,some v',Pk]/\b'<=i+1/\LJ C a H (n+3400+1000*(i+1)) rl us ts md ws tot b' A' y' os' H') ?_ ?_
  ·rintro σ3 H4 ⟨b',y',A',os',Pk,rfl,hb',L'⟩;ext;refine⟨A',y',md,ws,(b':Nat),rfl,L'.W.ys.at_ (A',y') (by simp),L'.W.yo (A',y') (by simp),L'.e3,L'.mo,by rw[L'.yp],fun H5 s5=>⟨true,rfl,?_⟩⟩
   rw[aQ ⋯]
   exact hM _ _ ⟨b',y',A',os',_,_,_,_,_,_,rfl,hb',L'.grow s5⟩
  ·intro N hN;ext;refine cA (fun c=>?_) (fun c=>?_)
   ·have YO2:fB y2:=L2.W.yo (A,y2) (by simp)
    obtain⟨mV,TA⟩:=uF L2.au;refine lF ((ts.map (·.1)).map .str) (fun R hR=>by ext; exact hR) L2.e2 (by simp; omega) ∅ (oJ _) (fun i' x d H' hx hd s' R hR=>?_) fun qa vs H4 f4 s4 e4 a4=>?_
    ·have hi:i'<ts.length:=by rw[<- lu]; exact(iY.mp hx).1
     have et:ts[i']?=some ts[i']:=dC hi;obtain⟨b',vp,h1,h2,h3⟩:=(TA.mono s'.kp).at_ i' _ et;rw[hx] at h1;cases h1;rw[cM,cM,et] at hd;cases hd;ext;exact Ix.tup h3 (aV (j:=0) rfl) (hR _ _ (aL.refl _) (At.str _))
    have:=mG a4;subst this;have V4:=L2.W.new f4 s4 e4;refine V4.comes (qa:=qa) (ns:=ts.map (·.1)) (iK ..) nn (by rw[bW]; exact T5) ∅ fun pc uc cs HC VC aC GC kC fpc=>?_
    show qP _ _ _ _ _;ext;have YAC:=VC.ys.at_ (A,y2) (by simp)
    refine Me.of (m:="beat") (R:=fun p=>_) YAC (fun _ _ _ _ _ _ _=>rfl) ?_;have GY:CmG y2.ns cs:=by rw[L2.yn]; exact GC
    have yp:=L2.yp;refine VC.agL (i:=0) rfl (iK ..) aC GY ∅ fun pe mm xs HD VD aD kD fD=>?_
    simp only[List.set_cons_zero] at VD;have k3D:dH H3 HD:=s4.kp.trans (kC.trans kD);have inD:∀{l},l∈S7 os H3->l∈(pe,xs)::(pc,uc)::(qa,(ts.map (·.1)).map V.str)::S7 os H3:=fun {l} h=>by simp[h]
    have nd:=L2.nd;simp only[jY,bN,not_or] at nd;obtain⟨⟨n1,n2⟩,n3,n4⟩:=nd;have mD:mz HD ws y2:=L2.mo.kp k3D fun w hw xs' e=>(VD.lo _ (inD (WT.mem (L2.o5 w hw) e))).2.2;have e3D:=(VD.lo _ (inD (WT.mem L2.o3 L2.e3))).2.2;have e2D:=(VD.lo _ (inD (WT.mem L2.o2 L2.e2))).2.2;have af7:=(VD.lo (pc,uc) (by simp)).2.2
    have aCD:=aj.kp kD _ _ (ud cs) aC;refine⟨md,ws,y2,pc,uc,cs,by rw[L2.yt],e3D,mD,n3,YO2,L2.tt,by rw[L2.yt]; exact h60,af7,aCD,GY,fun pf xs2 HE ff frE mE eE aE=>?_⟩
    have YOn:=Ut (cs:=cs) YO2 ∅
    have wE:∀w∈ws,∃vs,HE w=some (.lst vs):=fun w hw=>by
     obtain⟨j',hj'⟩:=Aj hw;obtain⟨w',_,_,_,_,_,g0,_,_,_,_,_,D⟩:=mE.get YOn.L (i:=j') (by have:=(iY.mp hj').1; have:=mE.l; omega)
     rw[hj'] at g0; cases g0;obtain⟨_,_,_,d1,_⟩:=D.ex;exact⟨_,d1⟩
    have wsD:∀w∈ws,∃vs,(w,vs)∈S7 os H3:=fun w hw=>⟨lc H3 w,cV.mpr ⟨w,L2.o5 w hw,rfl⟩⟩
    obtain⟨VE,kE⟩:=VD.norm.chg (S:=ws) (ls':=S7 (((pe,xs)::(pc,uc)::(qa,(ts.map (·.1)).map V.str)::S7 os H3).map (·.1)) HE) frE (fun b' hb'=>by
     obtain⟨vs,h⟩:=wsD b' hb';have e:=(VD.lo _ (inD h)).2.2
     exact⟨vs,WT.mem (cV.mpr ⟨_,inD h,rfl⟩) e⟩) (fun l hl=>by
     obtain⟨b',hb',rfl⟩:=cV.mp hl;obtain⟨l0,h0,rfl⟩:=cV.mp hb';have e:=(VD.lo _ h0).2.2;refine⟨⟨_,WT.mem hb' e⟩,?_⟩;show HE l0.1=some (.lst (lc HE l0.1));by_cases hw:l0.1∈ws
     ·obtain⟨vs,e'⟩:=wE _ hw;rw[CN e']; exact e'
     ·have e':=frE _ _ e hw
      rw[CN e']; exact e')
    have npe:pe∉ws:=fun h=>by
     obtain⟨vs,h'⟩:=wsD _ h;have e:=(VC.lo _ (jb _ (jb _ h'))).2.2;rw[show(pe,vs).1=pe from rfl,fD] at e; cases e
    have epe:=frE _ _ (VD.lo (pe,xs) (by simp)).2.2 npe
    have aDE:=aj.kp kE _ _ (qg _) aD;have sdR:SD 3 (lnD (Jg y2 cs)):=SD.ln (fun r hr=>YO2.str (agK r hr)) (lW (YOn.pl _ (by rw[Yu]; simp)) ⋯)
    refine⟨.ref pe,.ref pf,lnD (Jg y2 cs),rfl,At.lst epe aDE,At.lst eE aE,sdR.mono ⋯,⋯,fun HF sF=>⟨true,rfl,?_⟩⟩
    rw[aQ ⋯]
    have k3E:dH H3 HE:=k3D.trans kE;have LE:LJ C a H (n+3400+1000*i+1+1+900+40) rl us ts md ws tot (b+1) { A with zZ:=A.zZ++[mm] } (La y2 cs) (((pe,xs)::(pc,uc)::(qa,(ts.map (·.1)).map V.str)::S7 os H3).map (·.1)) HE:=⟨VE,cV.mpr ⟨_,inD (WT.mem L2.o2 L2.e2),rfl⟩,cV.mpr ⟨_,inD (WT.mem L2.o3 L2.e3),rfl⟩,fun w hw=>by obtain⟨vs,h⟩:=wsD w hw; exact cV.mpr ⟨_,inD h,rfl⟩,frE _ _ e2D n2,frE _ _ e3D n3,aj.kp k3E _ _ (mX _) L2.au,mE,L2.nd,by rw[adp]; exact L2.yn,by rw[aaJ]; exact L2.yt,agJ YO2 L2.tt,by rw[Yu,dg,yp]; rfl⟩
    have LF:=LE.grow sF;exact hN _ _ ⟨b+1,La y2 cs,{ A with zZ:=A.zZ++[mm] },_,_,rfl,∅,LF.xF (SX.refl _ _) (LF.W.tp.mono ∅)⟩
   ·exact hN _ _ ⟨b,y2,A,os,Pk,rfl,∅,L2.xF (SX.refl _ _) (L2.W.tp.mono ∅)⟩
 ·rintro σ H8 ⟨b,y,A,os,o7,o8,o9,Z3,Z2,Pk,rfl,hb,L⟩;ext;exact q H8 _ L.W.tp L.W.sx
def LQ(K:Frag):Sp:=fun vs H Q _=>∃(p:Addr)(ns:List Int),vs=[.ref p]/\U9 K H p (ns.map V.int)/\ns.length<=63/\∀H',Q (.bl true) H'
theorem RD:bf BI BI (aK xZ):=(by walk_at "c")
theorem Z1{C:Addr}(F:iT K "law" "law" xZ f fd)(B:Bi mg)(Um:Ct P w K mg base k "_law_tape" AK (Rp K))(KJ:Ct P w K mg base k "_law_walked" AM (ab2 C)):bI P w K mg base gQ (k+1) f fd BI (LQ K):=by
 refine F.ok RD (hbody:=(0:))
 obtain⟨p,ns,rfl,hS,hl,q⟩:=h;have ND:=RD.nd;refine⟨_,(aH (bw (pb (mQ rfl) B.all zU (ao (dR (N':=["_law_k","_law_script"]) (js:=[0]) rfl (dJ (by rfl) B.range (ao (pb (gw rfl) B.max kZ (ao aq (ao (pb (cW rfl) B.min iR (ao (pb (cX (K:=K) rfl) B.len fQ (ao (pv 0) ak)) (ao aq ak))) ak))) ak)) sr.mk1 rfl ⋯ rfl (fun fp s' H'=>(pf KJ hr (ao (pf Um hr (ao (pv 1) (ao (pv 0) ak))) ak)))) ak)))),?_⟩
 ext;rw[uE];ext;refine⟨p,_,rfl,.inl hS.sq,_,_,rfl,?_⟩;rw[bW]
 obtain⟨n,hn,hn8⟩:∃n:Nat,(if(if(4:Int)<(ns.length:Int) then(4:Int) else(ns.length:Int))>2 then(if(4:Int)<(ns.length:Int) then(4:Int) else(ns.length:Int)) else 2)=(n:Int)/\n<=4:=by
  refine⟨(if(if(4:Int)<(ns.length:Int) then(4:Int) else(ns.length:Int))>2 then(if(4:Int)<(ns.length:Int) then(4:Int) else(ns.length:Int)) else 2).toNat,?_,?_⟩ <;> (split <;> split <;> omega)
 rw[hn];refine CK.of (n:=n) rfl ∅ fun acc hacc=>?_
 refine⟨fun j zs H'=>zs=(List.replicate j true).map V.bl/\H' acc=some (.lst zs)/\U9 K H' p (ns.map V.int)/\aL H H',⟨rfl,aB,hS.same (aP hacc _),aP hacc _⟩,?_,?_⟩
 ·rintro j zs H2 hj ⟨rfl,c2,e2,s2⟩;show nJ _ _ _ _ [some _,some (.ref p)] H2 _;ext;refine⟨p,ns,_,rfl,e2.sq,∅,∅,fun a H3 f3 s3 t3=>?_⟩
  refine⟨a,0,rfl,t3,⋯,fun H4 _ _ s4=>?_⟩
  have k4:aL H2 H4:=fun b o hb=>by
   have ba:b≠a:=cB hb f3;exact s4.get ba (s3 _ _ hb)
  have s5:=(s2.trans k4).eZ (o:=.lst ((List.replicate j true).map V.bl++[V.bl true])) hacc;refine⟨k4 _ _ c2,by rw[bW,uW]; exact a_ ∅,?_,aB,hS.same s5,s5⟩
  rw[List.map_replicate,<- OJ,List.replicate_succ']
 ·rintro zs H2 ⟨rfl,c2,e2,s2⟩;refine⟨acc,_,rfl,c2,?_⟩;have:(List.replicate n true).all id=true:=by simp
  rw[this];exact q H2
end
theorem un0{us:List AA}{n:Nat}(h:us.length=n+1):∃a r,us=a::r/\r.length=n:=by
 cases us with
 | nil=>cases h
 | cons a r=>exact⟨a,r,rfl,Nat.succ.inj h⟩
theorem Lq{us:List AA}(h:us.length=1):∃a,us=[a]:=by
 obtain⟨a,r,rfl,g⟩:=un0 h;cases List.length_eq_zero_iff.mp g;exact⟨a,rfl⟩
theorem DN{us:List AA}(h:us.length=2):∃a a0,us=[a,a0]:=by
 obtain⟨a,r,rfl,g⟩:=un0 h;obtain⟨a0,rfl⟩:=Lq g;exact⟨a,a0,rfl⟩
theorem Gn{us:List AA}(h:us.length=3):∃a a0 a1,us=[a,a0,a1]:=by
 obtain⟨a,r,rfl,g⟩:=un0 h;obtain⟨a0,a1,rfl⟩:=DN g;exact⟨a,a0,a1,rfl⟩
theorem un4{us:List AA}(h:us.length=4):∃a a0 a1 a2,us=[a,a0,a1,a2]:=by
 obtain⟨a,r,rfl,g⟩:=un0 h;obtain⟨a0,a1,a2,rfl⟩:=Gn g;exact⟨a,a0,a1,a2,rfl⟩
theorem un5{us:List AA}(h:us.length=5):∃a a0 a1 a2 a3,us=[a,a0,a1,a2,a3]:=by
 obtain⟨a,r,rfl,g⟩:=un0 h;obtain⟨a0,a1,a2,a3,rfl⟩:=un4 g;exact⟨a,a0,a1,a2,a3,rfl⟩
theorem all_mk{l:PySem.W.OpenLaw}{w:World}{K:Frag}{h:Heap}{mg:Str->Option AA}{fa:Addr}(X:K.In h)(G:h.Ns mainGlobals mg)(hfa:mg "law" = some (.ref fa))
  {f0:Addr} (e0:mC K "is_name" uQ f0)
  {f1:Addr} (e1:mC K "wish" JD f1)
  {f2:Addr} (e2:mC K "rule_wish" o_ f2)
  {f3:Addr} (e3:mC K "row_says" qR f3)
  {f4:Addr} (e4:mC K "first_stand" lL f4)
  {f5:Addr} (e5:mC K "hands_of" qY f5)
  {f6 T6:Addr} (e6:YH K "beat" JF f6 T6 12)
  {f7:Addr} (e7:mC K "since_and_look" iZ f7)
  {f8:Addr} (e8:mC K "change_of" pC f8)
  {f9:Addr} (e9:mC K "with_change" lK f9)
  {f10:Addr} (e10:mC K "sent_home" oZ f10)
  {f11:Addr} (QQ:mC K "check_posts" lN f11)
  {f12:Addr} (Qh:mC K "check_least" lO f12)
  {f13:Addr} (Nz:mC K "check_onward" jR f13)
  {f14:Addr} (Ys:mC K "check_stands" jQ f14)
  {f15:Addr} (QM:mC K "_law_tape" yd f15)
  {f16:Addr} (e16:mC K "_law_draw" yf f16)
  {f17:Addr} (e17:mC K "_law_units" uJ f17)
  {f18:Addr} (e18:mC K "_law_row" DX f18)
  {f19:Addr} (e19:mC K "_law_rules" uL f19)
  {f20:Addr} (e20:mC K "_law_post" ye f20)
  {f21:Addr} (e21:mC K "_law_small_post" jP f21)
  {f22:Addr} (e22:mC K "_law_stand" uK f22)
  {f23:Addr} (e23:mC K "_law_row_wish" mY f23)
  {f24:Addr} (e24:mC K "_law_wish" yc f24)
  {f25:Addr} (e25:mC K "_law_beat" yg f25)
  {f26:Addr} (e26:mC K "_law_names" uM f26)
  {f27:Addr} (e27:mC K "_law_yard" x_ f27)
  {f28:Addr} (e28:mC K "_law_stands" qW f28)
  {f29:Addr} (e29:mC K "_law_begun" uP f29)
  {f30:Addr} (e30:mC K "_law_hands" uN f30)
  {f31:Addr} (e31:mC K "_law_turned" qU f31)
  {f32:Addr} (e32:mC K "_law_comes" uO f32)
  {f33:Addr} (e33:mC K "_law_same" sY f33)
  {f34:Addr} (e34:mC K "_law_as_due" qX f34)
  {f35:Addr} (e35:mC K "_law_another" ph f35)
  {f36:Addr} (e36:mC K "_law_put" DY f36)
  {f37:Addr} (e37:mC K "_law_walked" qT f37)
  {f38:Addr} (e38:mC K "law" xZ f38)
  {eU:Addr} (jd:ClE K "Yard" "Yard.__init__" i_ eU)
  (An:dF K eU "total")
  (Aq:dF K eU "order")
  (Ao:dF K eU "posts")
  (wL:dF K eU "onwards")
  (yR:dF K eU "stands")
  (wK:dF K eU "tallies")
  (Ew:dF K eU "past")
  {qz:Addr} (qy:Ji K eU "check_names" "Yard.check_names" gJ qz)
  {zu:Addr} (yZ:Ji K eU "change" "Yard.change" jV zu)
  {A_:Addr} (Av:Ji K eU "names" "Yard.names" lR A_)
  {Bb:Addr} (Ax:Ji K eU "beats" "Yard.beats" lV Bb)
  {Ba:Addr} (Aw:Ji K eU "hands" "Yard.hands" lU Ba)
  {Az:Addr} (Ar:Ji K eU "stand" "Yard.stand" lQ Az)
  {Ff:Addr} (Ez:Ji K eU "post" "Yard.post" mZ Ff)
  {zp:Addr} (yW:Ji K eU "onward" "Yard.onward" jT zp)
  {zq:Addr} (yX:Ji K eU "counts" "Yard.counts" jU zq)
  {tV:Addr} (tM:Ji K eU "post_beat" "Yard.post_beat" iG tV)
  {Fg:Addr} (EY:Ji K eU "beat" "Yard.beat" m6 Fg)
  (Bs:nsIn K mainGlobals "beat_beats" = some (some (.ref f6)))
  {bQ:Addr} (Og:nsIn K mainGlobals "BadYard" = some (some (.ref bQ)))
  (Dz:excIn K bQ YZ "ValueError.__new__" = true)
  (DG:exmOne K (.ref bQ) (.ref bQ)=some true)
  (abB:Nb K "all")
  (Dy:Nb K "isinstance")
  (abv:Nb K "str")
  (abz:Nb K "len")
  (aby:Nb K "max")
  (abx:Nb K "min")
  (abu:Nb K "sum")
  (YL:Nb K "list")
  (Jk:Nb K "reversed")
  (Vg:Nb K "range")
  (Vf:Nb K "tuple")
  (Gj:Nb K "enumerate")
  (abw:Nb K "set")
  (abC:Nb K "abs")
  (abA:Nb K "int")
  (YM:Nb K "dict")
  (YQ:Nb K "bool")
  (abt:Nb K "zip")
  {Q8 Q7 Q6:Tok} (Wt:NT K "WHATS" [.str "come" Q8,.str "done" Q7,.str "wait" Q6])
  (Z8:F_ K "OVER" "over")
  (Wu:F_ K "UNDER" "under")
  (Z9:F_ K "EACH" "each")
  (Pn:F_ K "LETTERS" "abcdefghijklmnopqrstuvwxyz")
  (yU:Ni K "MOST_LETTERS" 8)
  (Ey:Ni K "MOST_HANDS" 12)
  (yS:Ni K "TRIPLES_SEEN" 3)
  (Ex:Ni K "MOST_POSTS" 5) :
  ∃fd:FuncData,(∀(s:AB)(v:AA),BindsTo s fd ⟨[v],[]⟩ [("_law_script",v)])/\∀base:Heap,K.In base->base.Ns mainGlobals mg->bI l.prog w K mg base gQ 10 fa fd BI (LQ K):=by
 obtain⟨h0⟩:=e0.has X G (ps:=["thing"]) fun _ _ _ _ _ _ us hl=>by obtain⟨_,rfl⟩:=Lq hl; rfl
 obtain⟨h1⟩:=e1.has X G (ps:=["post","hands","newest"]) fun _ _ _ _ _ _ us hl=>by obtain⟨_,_,_,rfl⟩:=Gn hl; rfl
 obtain⟨h2⟩:=e2.has X G (ps:=["rule","hands","newest"]) fun _ _ _ _ _ _ us hl=>by obtain⟨_,_,_,rfl⟩:=Gn hl; rfl
 obtain⟨h3⟩:=e3.has X G (ps:=["row","hands","newest"]) fun _ _ _ _ _ _ us hl=>by obtain⟨_,_,_,rfl⟩:=Gn hl; rfl
 obtain⟨h4⟩:=e4.has X G (ps:=["post"]) fun _ _ _ _ _ _ us hl=>by obtain⟨_,rfl⟩:=Lq hl; rfl
 obtain⟨h5⟩:=e5.has X G (ps:=["stand"]) fun _ _ _ _ _ _ us hl=>by obtain⟨_,rfl⟩:=Lq hl; rfl
 obtain⟨h6⟩:=e6.has X G (ps:=["post","stand","come","free"]) (fun _ _ _ _ _ _ _ us hl=>by
  rw[q_] at hl;obtain⟨_,_,_,_,rfl⟩:=un4 hl
  exact⟨_,rfl,rfl⟩) fun _ _ _ _ _ _ _ us hl=>by
  obtain⟨_,_,_,rfl⟩:=Gn (Nat.succ.inj ((dg).symm.trans hl));exact⟨_,rfl,rfl⟩
 obtain⟨h7⟩:=e7.has X G (ps:=["post","since","rest"]) fun _ _ _ _ _ _ us hl=>by obtain⟨_,_,_,rfl⟩:=Gn hl; rfl
 obtain⟨h8⟩:=e8.has X G (ps:=["post","hands","newest","free"]) fun _ _ _ _ _ _ us hl=>by obtain⟨_,_,_,_,rfl⟩:=un4 hl; rfl
 obtain⟨h9⟩:=e9.has X G (ps:=["post","stand","change"]) fun _ _ _ _ _ _ us hl=>by obtain⟨_,_,_,rfl⟩:=Gn hl; rfl
 obtain⟨h10⟩:=e10.has X G (ps:=["ready","called","many"]) fun _ _ _ _ _ _ us hl=>by obtain⟨_,_,_,rfl⟩:=Gn hl; rfl
 obtain⟨h11⟩:=QQ.has X G (ps:=["total","posts"]) fun _ _ _ _ _ _ us hl=>by obtain⟨_,_,rfl⟩:=DN hl; rfl
 obtain⟨h12⟩:=Qh.has X G (ps:=["total","posts"]) fun _ _ _ _ _ _ us hl=>by obtain⟨_,_,rfl⟩:=DN hl; rfl
 obtain⟨h13⟩:=Nz.has X G (ps:=["onward","behind"]) fun _ _ _ _ _ _ us hl=>by obtain⟨_,_,rfl⟩:=DN hl; rfl
 obtain⟨h14⟩:=Ys.has X G (ps:=["total","posts","stands"]) fun _ _ _ _ _ _ us hl=>by obtain⟨_,_,_,rfl⟩:=Gn hl; rfl
 obtain⟨h15⟩:=QM.has X G (ps:=["_law_script","_law_k"]) fun _ _ _ _ _ _ us hl=>by obtain⟨_,_,rfl⟩:=DN hl; rfl
 obtain⟨h16⟩:=e16.has X G (ps:=["_law_tape_here","_law_many"]) fun _ _ _ _ _ _ us hl=>by obtain⟨_,_,rfl⟩:=DN hl; rfl
 obtain⟨h17⟩:=e17.has X G (ps:=["_law_tape_here"]) fun _ _ _ _ _ _ us hl=>by obtain⟨_,rfl⟩:=Lq hl; rfl
 obtain⟨h18⟩:=e18.has X G (ps:=["_law_tape_here","_law_small"]) fun _ _ _ _ _ _ us hl=>by obtain⟨_,_,rfl⟩:=DN hl; rfl
 obtain⟨h19⟩:=e19.has X G (ps:=["_law_tape_here","_law_small"]) fun _ _ _ _ _ _ us hl=>by obtain⟨_,_,rfl⟩:=DN hl; rfl
 obtain⟨h20⟩:=e20.has X G (ps:=["_law_tape_here"]) fun _ _ _ _ _ _ us hl=>by obtain⟨_,rfl⟩:=Lq hl; rfl
 obtain⟨h21⟩:=e21.has X G (ps:=["_law_tape_here"]) fun _ _ _ _ _ _ us hl=>by obtain⟨_,rfl⟩:=Lq hl; rfl
 obtain⟨h22⟩:=e22.has X G (ps:=["_law_tape_here"]) fun _ _ _ _ _ _ us hl=>by obtain⟨_,rfl⟩:=Lq hl; rfl
 obtain⟨h23⟩:=e23.has X G (ps:=["_law_row_here","_law_hands_here","_law_newest"]) fun _ _ _ _ _ _ us hl=>by obtain⟨_,_,_,rfl⟩:=Gn hl; rfl
 obtain⟨h24⟩:=e24.has X G (ps:=["_law_post_here","_law_hands_here","_law_newest"]) fun _ _ _ _ _ _ us hl=>by obtain⟨_,_,_,rfl⟩:=Gn hl; rfl
 obtain⟨h25⟩:=e25.has X G (ps:=["_law_post_here","_law_stand_here","_law_come","_law_free"]) fun _ _ _ _ _ _ us hl=>by obtain⟨_,_,_,_,rfl⟩:=un4 hl; rfl
 obtain⟨h26⟩:=e26.has X G (ps:=["_law_tape_here","_law_many"]) fun _ _ _ _ _ _ us hl=>by obtain⟨_,_,rfl⟩:=DN hl; rfl
 obtain⟨h27⟩:=e27.has X G (ps:=["_law_tape_here"]) fun _ _ _ _ _ _ us hl=>by obtain⟨_,rfl⟩:=Lq hl; rfl
 obtain⟨h28⟩:=e28.has X G (ps:=["_law_tape_here","_law_total","_law_rows"]) fun _ _ _ _ _ _ us hl=>by obtain⟨_,_,_,rfl⟩:=Gn hl; rfl
 obtain⟨h29⟩:=e29.has X G (ps:=["_law_rows","_law_stands_here"]) fun _ _ _ _ _ _ us hl=>by obtain⟨_,_,rfl⟩:=DN hl; rfl
 obtain⟨h30⟩:=e30.has X G (ps:=["_law_model"]) fun _ _ _ _ _ _ us hl=>by obtain⟨_,rfl⟩:=Lq hl; rfl
 obtain⟨h31⟩:=e31.has X G (ps:=["_law_model","_law_total","_law_comes_here"]) fun _ _ _ _ _ _ us hl=>by obtain⟨_,_,_,rfl⟩:=Gn hl; rfl
 obtain⟨h32⟩:=e32.has X G (ps:=["_law_tape_here","_law_names_here"]) fun _ _ _ _ _ _ us hl=>by obtain⟨_,_,rfl⟩:=DN hl; rfl
 obtain⟨Nu⟩:=e33.has X G (ps:=["_law_found","_law_due"]) fun _ _ _ _ _ _ us hl=>by obtain⟨_,_,rfl⟩:=DN hl; rfl
 obtain⟨h34⟩:=e34.has X G (ps:=["_law_yard_here","_law_model","_law_beats"]) fun _ _ _ _ _ _ us hl=>by obtain⟨_,_,_,rfl⟩:=Gn hl; rfl
 obtain⟨h35⟩:=e35.has X G (ps:=["_law_tape_here","_law_post_here"]) fun _ _ _ _ _ _ us hl=>by obtain⟨_,_,rfl⟩:=DN hl; rfl
 obtain⟨h36⟩:=e36.has X G (ps:=["_law_yard_here","_law_model","_law_total","_law_at","_law_post_here"]) fun _ _ _ _ _ _ us hl=>by obtain⟨_,_,_,_,_,rfl⟩:=un5 hl; rfl
 obtain⟨h37⟩:=e37.has X G (ps:=["_law_tape_here"]) fun _ _ _ _ _ _ us hl=>by obtain⟨_,rfl⟩:=Lq hl; rfl
 have Br:=(mg_of X G Bs).trans ((mg_of X G e6.ns).symm.trans h6.m)
 obtain⟨Nt⟩:=jd.has X G (ps:=["self","total","posts","stands"]) (fun _ _ _ _ _ _ _ us hl=>by
  rw[q_] at hl;obtain⟨_,_,_,_,rfl⟩:=un4 hl
  exact⟨_,rfl,rfl⟩) fun _ _ _ _ _ _ _ us hl=>by
  obtain⟨_,_,_,rfl⟩:=Gn (Nat.succ.inj ((dg).symm.trans hl));exact⟨_,rfl,rfl⟩
 have fX:ZY K eU:=⟨jd.c,An,Aq,Ao,wL,yR,wK,Ew⟩;obtain⟨jq⟩:=qy.has (ps:=["self","names"]) fun _ _ _ _ _ _ us hl=>by obtain⟨_,_,rfl⟩:=DN hl; rfl
 obtain⟨nY⟩:=yZ.has (ps:=["self","name","post"]) fun _ _ _ _ _ _ us hl=>by obtain⟨_,_,_,rfl⟩:=Gn hl; rfl
 obtain⟨pP⟩:=Av.has (ps:=["self"]) fun _ _ _ _ _ _ us hl=>by obtain⟨_,rfl⟩:=Lq hl; rfl
 obtain⟨pR⟩:=Ax.has (ps:=["self"]) fun _ _ _ _ _ _ us hl=>by obtain⟨_,rfl⟩:=Lq hl; rfl
 obtain⟨pQ⟩:=Aw.has (ps:=["self"]) fun _ _ _ _ _ _ us hl=>by obtain⟨_,rfl⟩:=Lq hl; rfl
 obtain⟨pO⟩:=Ar.has (ps:=["self","name"]) fun _ _ _ _ _ _ us hl=>by obtain⟨_,_,rfl⟩:=DN hl; rfl
 obtain⟨qK⟩:=Ez.has (ps:=["self","name"]) fun _ _ _ _ _ _ us hl=>by obtain⟨_,_,rfl⟩:=DN hl; rfl
 obtain⟨nU⟩:=yW.has (ps:=["self","name"]) fun _ _ _ _ _ _ us hl=>by obtain⟨_,_,rfl⟩:=DN hl; rfl
 obtain⟨nW⟩:=yX.has (ps:=["self","name"]) fun _ _ _ _ _ _ us hl=>by obtain⟨_,_,rfl⟩:=DN hl; rfl
 obtain⟨j9⟩:=tM.has (ps:=["self","name","come"]) fun _ _ _ _ _ _ us hl=>by obtain⟨_,_,_,rfl⟩:=Gn hl; rfl
 obtain⟨qL⟩:=EY.has (ps:=["self","comes"]) fun _ _ _ _ _ _ us hl=>by obtain⟨_,_,rfl⟩:=DN hl; rfl
 have B:Bi mg:=⟨mg_none_of X G abB,mg_none_of X G Dy,mg_none_of X G abv,mg_none_of X G abz,mg_none_of X G aby,mg_none_of X G abx,mg_none_of X G abu,mg_none_of X G YL,mg_none_of X G Jk,mg_none_of X G Vg,mg_none_of X G Vf,mg_none_of X G Gj,mg_none_of X G abw,mg_none_of X G abC,mg_none_of X G abA,mg_none_of X G YM,mg_none_of X G YQ,mg_none_of X G abt⟩;have O:Co K mg:=⟨(let ⟨a,n,_,z,m⟩:=Wt; ⟨a,mg_of X G z,⟨_,m,rfl,rfl⟩,fun H=>.inr ⟨_,_,n,m,rfl,rfl,(by show 3<=sizeLine; decide),(.cons ⟨_,rfl⟩ (.cons ⟨_,rfl⟩ (.cons ⟨_,rfl⟩ .nil)))⟩⟩),Z8.gs X G,Wu.gs X G,Z9.gs X G,Pn.gs X G,yU.gi X G,Ey.gi X G,yS.gi X G,Ex.gi X G⟩
 have Z:ZL K mg bQ:=⟨mg_of X G Og,Dz,DG⟩;obtain⟨oc,od,an,sl,kV,dc,pm,cd,ct,ea,el,ec,ek0⟩:=e38;have e:=hfa.symm.trans (mg_of X G ea);cases e;refine⟨fnOf "law" "law" (cJ xZ) (b8 xZ) (aK xZ) .none kV dc pm an cd ct,fun s v=>.of_eq rfl,fun base _ _=>?_⟩;have F:=Kq (st:=xZ) el ec ek0;have Iz:=h15.ct l.prog w base (Pa (k:=0) h15.F B);have cN:=h16.ct l.prog w base (Pg (k:=0) h16.F B);have jJ:=h17.ct l.prog w base (JX (k:=1) h17.F B (cN.mono ⋯))
 have KY:=h18.ct l.prog w base (Sy (k:=2) h18.F B (cN.mono ⋯) (jJ.mono ⋯))
 have um:=h19.ct l.prog w base (J2 (k:=3) h19.F B (cN.mono ⋯) (KY.mono ⋯))
 have wg:=h20.ct l.prog w base (Pb (k:=4) h20.F B (cN.mono ⋯) (jJ.mono ⋯) (um.mono ⋯))
 have lH:=h21.ct l.prog w base (wD (k:=4) h21.F B (cN.mono ⋯) (um.mono ⋯))
 have Fy:=h26.ct l.prog w base (J3 (k:=1) h26.F B (cN.mono ⋯))
 have Iu:=h27.ct l.prog w base (O9 (k:=5) h27.F B (cN.mono ⋯) (wg.mono ⋯) (lH.mono ⋯) (Fy.mono ⋯))
 have Fx:=h22.ct l.prog w base (JZ (k:=2) h22.F B (cN.mono ⋯) (jJ.mono ⋯))
 have Bh:=h28.ct l.prog w base (HN (k:=3) h28.F B (cN.mono ⋯) (Fx.mono ⋯))
 have FJ:=h29.ct l.prog w base (J6 (k:=0) h29.F B);have zT:=h35.ct l.prog w base (Es (k:=5) h35.F B (cN.mono ⋯) (wg.mono ⋯) (lH.mono ⋯))
 have aY:=jq.ct jd.c l.prog w base (pL (k:=0) jq.F B fX);have fK:=h12.ctE l.prog w base (yM (k:=0) h12.F B Z);have mU:=nY.ctE jd.c l.prog w base (wJ (k:=1) nY.F B fX (aY.mono ⋯) (fK.mono ⋯))
 have p_:=mU.calm;have KZ:=h36.ct l.prog w base (SJ (k:=2) h36.F B Z (mU.mono ⋯))
 have uo:=h30.ct l.prog w base (J4 (k:=0) h30.F B);have wQ:=h23.ct l.prog w base (Ak (k:=0) h23.F B);have Iw:=h24.ct l.prog w base (O_ (k:=1) h24.F B (wQ.mono ⋯))
 have IK:=h25.ct l.prog w base (Ph (k:=2) h25.F B (Iw.mono ⋯))
 have Bg:=h31.ct l.prog w base (HJ (k:=3) h31.F B (uo.mono ⋯) (IK.mono ⋯))
 have Fz:=h32.ct l.prog w base (J5 (k:=2) h32.F B (cN.mono ⋯) (jJ.mono ⋯))
 have Bp:=Nu.ct l.prog w base (J0 (k:=0) Nu.F);have Bo:=Nu.ct l.prog w base (jM (k:=1) 0 Nu.F B (Bp.mono ⋯))
 have Bm:=Nu.ct l.prog w base (jM (k:=2) 1 Nu.F B (Bo.mono ⋯))
 have Bl:=Nu.ct l.prog w base (jM (k:=3) 2 Nu.F B (Bm.mono ⋯))
 have Bk:=Nu.ct l.prog w base (jM (k:=4) 3 Nu.F B (Bl.mono ⋯))
 have Bj:=Nu.ct l.prog w base (jM (k:=5) 4 Nu.F B (Bk.mono ⋯))
 have qM:=Nu.ct l.prog w base (jM (k:=6) 5 Nu.F B (Bj.mono ⋯))
 have mj:=pP.ct jd.c l.prog w base (yO (k:=0) pP.F B fX);have mq:=pR.ct jd.c l.prog w base (yQ (k:=0) pR.F B fX);have d_:=h5.ct l.prog w base (HR (k:=0) h5.F B);have fM:=pQ.ct jd.c l.prog w base (yP (k:=1) pQ.F B fX (d_.mono ⋯))
 have l_:=pO.ct jd.c l.prog w base (yN (k:=1) pO.F fX (aY.mono ⋯))
 have nG:=qK.ct jd.c l.prog w base (Al (k:=1) qK.F fX (aY.mono ⋯))
 have kW:=nU.ct jd.c l.prog w base (wH (k:=1) nU.F fX (aY.mono ⋯))
 have kY:=nW.ct jd.c l.prog w base (wI (k:=1) nW.F fX (aY.mono ⋯))
 have Bq:=h34.ct l.prog w base (HQ (k:=7) h34.F B fX (qM.mono ⋯) (uo.mono ⋯) (mj.mono ⋯) (mq.mono ⋯) (fM.mono ⋯) (l_.mono ⋯) (nG.mono ⋯) (kW.mono ⋯) (kY.mono ⋯))
 have vB:=h0.ct l.prog w base (J7 (k:=0) h0.F B O);have kJ:=h13.ct l.prog w base (wG (k:=0) h13.F);have lZ:=h11.ct l.prog w base (yL (k:=1) h11.F B O (vB.mono ⋯) (kJ.mono ⋯) (fK.mono ⋯))
 have lY:=h4.ct l.prog w base (yK (k:=0) h4.F B);have kI:=h14.ct l.prog w base (wF (k:=1) h14.F B (d_.mono ⋯))
 have vC:=tL (k:=2) Nt.F B fX (lZ.mono ⋯) (lY.mono ⋯) (kI.mono ⋯)
 have Up:=Nt.ctE l.prog w base vC;have K9:=Up.calm;have gA:=h7.ct l.prog w base (tK (k:=0) h7.F);have rW:=h3.ct l.prog w base (Hz (k:=0) h3.F B O);have pZ:=h2.ct l.prog w base (Er (k:=1) h2.F (rW.mono ⋯))
 have KH:=h1.ct l.prog w base (Wo (k:=2) h1.F B (pZ.mono ⋯))
 have lG:=h8.ct l.prog w base (Et (k:=3) h8.F B (KH.mono ⋯))
 have pY:=h10.ct l.prog w base (Ep (k:=0) h10.F B);have jj:=h9.ct l.prog w base (yJ (k:=1) h9.F B (pY.mono ⋯))
 have agI:=h6.ct l.prog w base (MJ (k:=4) h6.F B O (gA.mono ⋯) (lG.mono ⋯) (d_.mono ⋯) (jj.mono ⋯))
 have nF:=Vb.alias (h6.ct l.prog w base (MJ (k:=4) h6.F B O (gA.mono ⋯) (lG.mono ⋯) (d_.mono ⋯) (jj.mono ⋯))) Br
 have iQ:=j9.ct jd.c l.prog w base (rJ (k:=5) j9.F B O fX (fM.mono ⋯) (nF.mono ⋯))
 have nH:=qL.ct jd.c l.prog w base (Am (k:=6) qL.F B fX (aY.mono ⋯) (iQ.mono ⋯))
 have Bf:=h37.ct l.prog w base (HH (k:=8) h37.F B fX (cN.mono ⋯) (Iu.mono ⋯) (Bh.mono ⋯) (FJ.mono ⋯) (zT.mono ⋯) (KZ.mono ⋯) (Bg.mono ⋯) (Fz.mono ⋯) (qM.mono ⋯) (Bq.mono ⋯) (K9.mono ⋯) (nH.mono ⋯))
 exact Z1 (k:=9) F B (Iz.mono ⋯) (Bf.mono ⋯)
theorem walk{l:PySem.W.OpenLaw}{q:AC}{loose:List Str}{XP:(Str->Option AA)->Heap->Prop}{YP:World->Heap->Prop}{d:DefRec}{K:Params->Frag}(hn:l.most=some 63)(hdf:d.params.defaults=[])
  (hY:∀(w:World)(h:Heap),YP w h->(K w.params).In h)
  (F:∀(w:World)(mg:Str->Option AA)(fa:Addr)(h:Heap),(K w.params).In h->h.Ns mainGlobals mg->mg d.name=some (.ref fa) ->
   ∃fd:FuncData,(∀(s:AB)(u:AA),BindsTo s fd ⟨[u],[]⟩ [("_law_script",u)])/\∀base:Heap,(K w.params).In base->base.Ns mainGlobals mg->bI l.prog w (K w.params) mg base gQ 10 fa fd BI (LQ (K w.params))) :
  PySem.W.WalkO q loose XP YP l.row.toRowW d [] (fun f vs=>PySem.call f vs):=
 _L.Vj (n:=63) (k:=10) (x:="_law_script") (CX:=fun _=>gQ) (sp:=fun w=>LQ (K w.params)) hn ⋯ hdf ⟨rfl,⋯,⋯,rfl⟩ hY F (fun _ _ a ns hl hO hS=>⟨a,ns,rfl,U9.of hS hO,hl,fun _=>rfl⟩) fun _ _ _ _ _ z=>z
end _K
structure PySem.W.Fast:Prop where(tw4664902143218263547 tw15935750050524457535 tw9459866815450164565 tw11462345046540802465 tw17479980184628715179 tw5573860536130342749 tw10476797326921745200 tw8667242184457892307 tw7076008191192290600 tw14851085691487188705 tw11626454184309808788 tw12751772176815153252 tw14645720478147213832 tw17726418656127459698 tw14863080367313345117 tw3119226957096941296 tw3247361350675403005 tw9053862150426723118 tw17238780273266190590 tw13757378031871161586 tw7535523133431511654 tw9860857087980511652 tw3697406720746714580 tw16454017411272661802 tw1235008961612942603 tw10350482892223594709 tw7647652759602289503 tw15560542749740730345 tw5433729458871676504 tw2336290977166262302 tw11977376931866308935 tw10627015021988016071 tw6848318102252445050 tw4286735535388104029 tw11365924863801563069 tw5182299166882821912 tw5038979045788614 tw6683943632727376744 tw8425972719876319809 tw1839129676340524555 tw17094432683630130313 tw2875458893094801191 tw8258665915809275189 tw18301446786895778391 tw11120695414615240770 tw3489900667404408338 tw8140972732559313828 tw7865995989957614265 tw7979613344772995476 tw17564386706181696778 tw5114282613301353636 tw12206639146321811496 tw12796541732910008076 tw3521329967564962076 tw13709658221038845324 tw12155030804372646342 tw15465594572543294408 tw4878458281706522157 tw1837667367847826518 tw4246777370410904603 tw10473927359539364667 tw4787350793562253194 tw10469064151846074945 tw6573670081785964621 tw3366347783324001795 tw8579440785140518021 tw9183549076832476272 tw9837408882121947130 tw3603349579435923294 tw8378887908171034147 tw6756179254931628520 tw10305452305126449517 tw4754176465969057533 tw2154770702032881460 tw373491204236494466 tw3388387263150528475 tw5318853324149558436 tw15802794902003153508 tw14819706778499233979 tw6982564241013144707 tw10840956180303308254 tw18344759200102178760 tw6901132878250728289 tw16830691010489444619 tw9416074286896723671 tw13859563813200605721 tw3820614638996327899 tw11415852559660016703 tw13961992198570366275 tw2086346988601256073 tw5796692403036315472 tw4185445130838323838 tw18099231194186423219 tw8996425155397563482 tw1094632643203708763 tw12894833872681670902 tw15421254647369419106 tw904059622330871014 tw14944653398172902524 tw12231027078304987116 tw7685650756453828422 tw8849450246190402407 tw13192168636556013334 tw11801995175176320629 tw18137758471637711972 tw12850660766961910292 tw6188269917078511325 tw13159867173396286034 tw14482269476808134880 tw17379226211552559265 tw169168537416158582 tw17234877789981475977 tw3855429303782861127 tw10790080408052314106 tw7246520299129875094 tw16172668224490083197 tw4270234527653781531 tw327877519060989900 tw11764523038818189833 tw8220042285130712384 tw2720987720707537990 tw10027118444556189691 tw13988961298068514148 tw2729794030324606059 tw11787719234679714747 tw6321606647243023395 tw17447565281138937946 tw13378031793002482296 tw6844187147543043693 tw594370143920981445 tw5279126251183098675 tw14210163569121591090 tw4164749089444620960 tw880590155070152006 tw4571877711079883828 tw16255562788865121413 tw2064748553060512814 tw4430003737786874818 tw16214373254117375927 tw15420158351013565926 tw3251060787369148473 tw8980175598800287831 tw17340013299286215517 tw6394824761947950910 tw1798018221532915626 tw2656194503176846920 tw15960352289131795426 tw9786475194313018739 tw1159343355392624139 tw9725462079475568250 tw1434555379880118582 tw9908100280270138752 tw12239498393221721652 tw867240831717395674 tw14289512327490712115 tw8270705275470872701 tw10110627347829836213 tw3193535784682131967 tw6850882265608181452 tw7281295495110940102 tw15623931399312492839 tw11609842672052813264 tw3098080250129613029 tw16871629250554727547 tw8554583607705568321 tw12591514591906545833 tw2640804676966261671 tw6323062275851860953 tw2643294339523589540 tw3602781930178039566 tw8213270549535293817 tw13210948621963737208 tw15803102397984264221 tw14760890167437659051 tw3083748056351744375 tw17125521625269680687 tw6965179531466035400 tw5929680687097034881 tw5282037577319337903 tw17383366860444986278 tw14285315728568649883 tw10063727815487909325 tw8102411383200202587 tw450798162486708443 tw7939733094671622973 tw7315195691078923920 tw13370038155565981263 tw3107820033165928355 tw13165465030967805016 tw18208509292256130710 tw50679036670215763 tw7661299448817206791 tw10740838578669726475 tw646744104567079685 tw16087123651391719737 tw16383082682894177890 tw6845852573894951014 tw9990155786668612434 tw12195183791970838509 tw4157399695407000507 tw5828916371950768766 tw8243673341432370414 tw10324272229120101467 tw2204765202473543706 tw8930217693609213059 tw6467488263658046673 tw15390540704693476557 tw7567222877055949331 tw14861924728258683772 tw13028249928239531177 tw7943686196016929387 tw4266238073792579830 tw3444916575691948614 tw5987096752156589536 tw15415146282312568450 tw10786158677236147097 tw8469482938571493478 tw7194752607283671301 tw5568874466178035251 tw5696726271211961941 tw9572909979769992784 tw16120254542214625245 tw6066161242915097392 tw14423335745532872976 tw261323404377909375 tw16610621598756149250 tw8074105589915655204 tw7700974444628960904 tw2098065883298099242 tw12487623388423230868 tw6548871265926397320 tw17188042067708409141 tw4148601202602625718 tw17103314165046674990 tw13886584894335540046 tw9451379781413440210 tw10518080382075904220 tw12873653617197483181 tw2663464768397652827 tw14880384469689804010 tw11674599868338331279 tw12910356420918731738 tw3037605917845196256 tw9488936062465643003 tw15053784914766347074 tw11205525967357808239 tw5303982375476487804 tw10917254041078621907 tw7846261606015715722 tw4750004335843686520 tw6335381554038419560 tw10368277073089341358 tw12100626978737933474 tw14228905505786707610 tw16703545678358796620 tw17246542681268945287 tw7058231146242219779 tw14473535364470995684 tw16117099531067479390 tw3548005330329317701 tw3743772280748374488 tw10379527618698555013 tw2465749251871919629 tw15986067131307841034 tw3377446320688481667 tw18110463976129744872 tw370559265833746791 tw16342773167923750502 tw10721262935366408699 tw1006978604115469272 tw5873941248806288415 tw10000477929830145616 tw13236026250041368579 tw9139898487119809108 tw10487862352476632109 tw1561291722608059580 tw10296870466839415256 tw16542618242642846051 tw12851950024544944736 tw8622742548163857394 tw4646153325400309176 tw18097863612681118174 tw3358410129773700851 tw12760517901265927016 tw12781277070389373354 tw7852896828496925971 tw4387751992663007533 tw14216309552120011417 tw14383364383279589529 tw14818488440004834312 tw7494451691894886637 tw10669181958704527556 tw6283007597296117869 tw7878567378163574037 tw2130928554575568747 tw5845575993559713651 tw8410429952989359651 tw13374502905353058762 tw15714854519541586479 tw7583948519655418779 tw12748927526567270601 tw11458168733649902096 tw10886142971985771398 tw11654721637232282328 tw7947150284254375845 tw7156381542512685128 tw13170034398694273044 tw6383363978543772689 tw8454047420710019377 tw1688058139769115068 tw13654078478838568365 tw16619859692410499062 tw9993414457085164738 tw7705197626897076730 tw1052925592359707739 tw7777912988608521376 tw5376523730883715321 tw8427103780886421140 tw16302359998381688524 tw6921305927167528455 tw10720639898891235249 tw3025576045821670432 tw18210879664951097784 tw4045372124636881429 tw15643478248705104729 tw4803688153080941566 tw7255361763915383376 tw4013148756513554558 tw6729782901242722356 tw3479941537858771737 tw2280423287740977226 tw17760514345663247106 tw4151356292701761351 tw16849094378867505152 tw2256102056580884227 tw7695038513197810651 tw16695348291334346838 tw6603969711890559146 tw12036495217687238005 tw7906017116404749228 tw3434676645445949740 tw9311258022897923194 tw17047383243627851258 tw18160440790487103012 tw3063927120681379167 tw692663023937021941 tw17909006926838805806 tw16515115477654417495 tw3611772200121180763 tw16134743502362434381 tw6515353654971983372 tw2316542356090856395 tw11317032183242480221 tw8636597302222820558 tw12288573289110256331 tw9751007918565233958 tw14927553765880764648 tw9042708384671409107 tw6978146610710926407 tw14970260838422144702 tw13988511257803200355 tw18344592637331481901 tw15040796591939878886 tw7930659270177228189 tw336587341860710851 tw5955918491177321802 tw11367137684970261863 tw10363906222206437049 tw13942953903795128949 tw11325629061699615281 tw17128635553712081772 tw7084894489312990656 tw9548702296651539278 tw152030313720849361 tw3069585660179671833 tw16075042458193966080 tw18108219283067561970 tw17543038713664541970 tw13800751990542885161 tw7068751795183186780 tw6144008441718260473 tw4982254595395589424 tw15759084912941811338 tw13474870157229908219 tw17195846316364695074 tw13108369765624364583 tw8475188795873793687 tw3887819294073793289 tw9965515108367483496 tw1352380587512147066 tw9463496626195012465 tw10773122641032616454 tw10084432263754117266 tw15894748549287880583 tw1349875603175534457 tw6280870787701110805 tw12625991546022441453 tw17139854303381256156 tw4063211178295564038 tw3504049717719388738 tw10691664068034774359 tw8760375122631538052 tw15356930698790378873 tw9746986330357754469 tw9143901329909458555 tw14104730335083355670 tw14325605685865147584 tw18134065984439996306 tw13502992309406454727 tw10739366870317559569 tw1439885958534660319 tw15053357468308668911 tw12109387298776601541 tw5856708495779429778 tw915883109764317734 tw3796404713097134023 tw7459479964184671525 tw13722233424735134410 tw10234575364127991967 tw12722672718210698507 tw218179654852234822 tw14084309664458506244 tw12385942449278881619 tw17919507013555610246 tw13768736019921877101 tw3317892108209420794 tw5217350586339348295 tw12337984221376494486 tw13456221390680710953 tw946997213964230241 tw8511788475161125603 tw5308476531375916579 tw9229395790975682115 tw16924593222302765440 tw9110733074752166075 tw15356815968384560117:True)
open PySem PySem.W PyProof.Rows
local macro_rules | `(tactic| walk_at "cle")=>`(tactic| (refine' _L.ClE.mk' ?a ?b ?c ?d ?e ?f ?g ?h ?i ?j ?k ?l ?m; (case a=>k_is); (case b=>k_is); (case c=>k_is); (case d=>k_is); (case e=>k_is); (case f=>k_is); (case g=>k_is); (case h=>k_is); (case i=>k_is); (case j=>k_is); (case k=>k_is); (case l=>k_is); (case m=>k_is)))
local macro_rules | `(tactic| walk_at "fc")=>`(tactic| (refine' _L.Ji.mk' ?a ?b ?c ?d ?e; (case a=>k_is); (case b=>k_is); (case c=>k_is); (case d=>k_is); (case e=>k_is)))
local macro_rules | `(tactic| walk_at "fd")=>`(tactic| (refine' _L.YH.mk ?a ?b ?c ?d ?e; (case a=>k_is); (case b=>k_is); (case c=>k_is); (case d=>k_is); (case e=>k_is)))
local macro_rules | `(tactic| walk_at "fn")=>`(tactic| (refine' _L.mC.mk ?a ?b ?c ?d; (case a=>k_is); (case b=>k_is); (case c=>k_is); (case d=>k_is)))
local macro_rules | `(tactic| walk_at "na")=>`(tactic| (unfold _L.dF; k_is))
local macro_rules | `(tactic| walk_at "nb")=>`(tactic| (unfold _L.Nb; k_is))
local macro_rules | `(tactic| walk_at "ni")=>`(tactic| (refine' _L.Ni.mk ?a; (case a=>k_is)))
local macro_rules | `(tactic| walk_at "ns")=>`(tactic| (refine' _L.F_.mk ?a; (case a=>k_is)))
local macro_rules | `(tactic| walk_at "nt")=>`(tactic| (refine' _L.NT.mk ?a ?b; (case a=>k_is); (case b=>k_is)))
set_option maxRecDepth 100000 in
set_option maxHeartbeats 0 in
theorem PySem.Challenge.cw_waithands_k35_other_posts_in_the_midst_holds : PySem.Challenge.rw_waithands_k35_other_posts_in_the_midst.Holds := by
 w_on; o_law; k_head; (case hw=>w_witness2)
 k_fill
 refine _K.walk (l:=PySem.Challenge.rw_waithands_k35_other_posts_in_the_midst) rfl rfl (fun w h Y=>PySem.W.kIn_of Y) ?F
 case F=>
  intro w mg fa h KX G hmg;refine' _K.all_mk KX G hmg ?e0 ?e1 ?e2 ?e3 ?e4 ?e5 ?e6 ?e7 ?e8 ?e9 ?e10 ?QQ ?Qh ?Nz ?Ys ?QM ?e16 ?e17 ?e18 ?e19 ?e20 ?e21 ?e22 ?e23 ?e24 ?e25 ?e26 ?e27 ?e28 ?e29 ?e30 ?e31 ?e32 ?e33 ?e34 ?e35 ?e36 ?e37 ?e38 ?e39 ?e40 ?e41 ?e42 ?e43 ?e44 ?e45 ?e46 ?e47 ?e48 ?e49 ?e50 ?e51 ?e52 ?e53 ?e54 ?e55 ?e56 ?e57 ?e58 ?e59 ?e60 ?e61 ?e62 ?e63 ?e64 ?e65 ?e66 ?e67 ?e68 ?e69 ?e70 ?e71 ?e72 ?e73 ?e74 ?e75 ?e76 ?e77 ?e78 ?e79 ?e80 ?e81 ?e82 ?e83 ?e84 ?e85 ?e86 ?e87 ?e88
  case e0 | e1 | e2 | e3 | e4 | e5=>walk_at "fn"
  case e6=>walk_at "fd"
  case e7 | e8 | e9 | e10 | QQ | Qh | Nz | Ys | QM | e16 | e17 | e18 | e19 | e20 | e21 | e22 | e23 | e24 | e25 | e26 | e27 | e28 | e29 | e30 | e31 | e32 | e33 | e34 | e35 | e36 | e37 | e38=>walk_at "fn"
  case e39=>walk_at "cle"
  case e40 | e41 | e42 | e43 | e44 | e45 | e46=>walk_at "na"
  case e47 | e48 | e49 | e50 | e51 | e52 | e53 | e54 | e55 | e56 | e57=>walk_at "fc"
  case e58 | e59=>k_is
  case e60=>k_exc
  case e61=>kts_exm
  case e62 | e63 | e64 | e65 | e66 | e67 | e68 | e69 | e70 | e71 | e72 | e73 | e74 | e75 | e76 | e77 | e78 | e79=>walk_at "nb"
  case e80=>walk_at "nt"
  case e81 | e82 | e83 | e84=>walk_at "ns"
  case e85 | e86 | e87 | e88=>walk_at "ni"

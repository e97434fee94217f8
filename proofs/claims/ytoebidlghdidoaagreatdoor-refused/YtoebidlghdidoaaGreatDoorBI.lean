import Derived.Test.YtoebidlghdidoaaGreatDoorBG
import Derived.Test.YtoebidlghdidoaaGreatDoorBH
set_option maxHeartbeats 8000000
namespace Go.Proofs.YtoebidlghdidoaaGreatDoor
open Tx Th Tryz List Go.RowKit
attribute [local go_sem ↓] Go.wp_at_zero Go.wp_at_succ
theorem aBe(w:World)(B b:Nat)(vl:Value)(nv wv:Option Addr)(ps:List (Th.LR × Value))(l:List Th.LR)(hb:aG w b [vl,.string (sb (aQ l)),.pointer nv,.pointer wv] 31)(hL:nZ w vl ps)(hps:ps.map Prod.fst=l)(hok:∀a∈l,a.Ok)(h5:l.length<=5)(htab:Lib.TabBelow prog B w uI .u64 Lib.pow10Tab)(hB1:B<=b)(hB2:B<=w.heap.size):Calls prog 7 #[.pointer (some ⟨b,0,none⟩)] w fun e w'=>e=.returned (.bool true)∧Mod (fun k=>k=b) w w':=by
 have hlen:ps.length=l.length:=by rw[<-hps,length_map]
 have no:∀{e w'},(e=Ending.returned (.bool true)∧Mod No w w')->e=Ending.returned (.bool true)∧Mod (fun k=>k=b) w w':=fun h=>⟨h.1,h.2.more (fun _ _ x=>x.elim)⟩
 by_cases hr:l.length<1∨4<l.length
 ·obtain⟨la,lc,rfl,-,-,-⟩:=hL.row.any;exact(BU w b la ps.length lc _ _ ps l hb hL hlen hps hok (by omega) (Or.inl ⟨rfl,by omega⟩) (Qk (O8 hok hr (by omega)))).mono fun _ _ h=>no h
 ·obtain⟨R,lc,rfl,-,-⟩:=hL.row.form (by omega);have hc:=Th.comes hok (by omega) (by omega) (limit:=200) (by omega) (by omega)
  cases hc with
  | big rs h1 h2 h3=>
   exact(BU w b _ ps.length lc _ _ ps l hb hL hlen hps hok (by omega) (Or.inr ⟨Or.inl rfl,by omega,by omega⟩) (Uc h1 h2 h3)).mono fun _ _ h=>no h
  | twin rs v x h1 h2 h3 h4 h5 h6=>
   exact(YK w b R ps.length lc _ _ ps l hb hL rfl hps hok (by omega) (by omega) rs v x h1 h2 h3 h4 h5 h6).mono fun _ _ h=>no h
  | much rs v h1 h2 h3 h4 h5=>
   exact(BU w b _ ps.length lc _ _ ps l hb hL hlen hps hok (by omega) (Or.inr ⟨Or.inr rfl,by omega,by omega⟩) (II h1 h2 h3 h4 h5)).mono fun _ _ h=>no h
  | made rs v aC h1 h2 h3 h4 h5 h6 h7 h8 h9=>
   exact YL w B b R ps.length lc nv wv ps l hb hL rfl hps hok (by omega) (by omega) htab hB1 hB2 rs v aC h1 h2 h3 h4 h6 h7 h8 h9
theorem Qm(w:World)(v:Value)(os:List xY)(hA:SC w v os)(hos:os.length<=281474976710656)(hwf:∀o∈os,aDB o)(htab:Lib.TabIs prog w uI .u64 Lib.pow10Tab):Calls prog 3 #[v] w fun e w'=>e=.returned (.bool true)∧Mod No w w':=by
 have HO:=qH (aDD YP w v os hA hos hwf);have HT:=qH (Lib.tabBelow_of_tabIs htab);obtain⟨a,cap,rfl⟩:=hA.sl;clear hA hos hwf htab;go_enter func3,ntmps3;go_wp2_with fail;refine HO.o.mono ?_;rintro e w1 ⟨m1,rfl | ⟨b,vl,ps,hbs,rfl,hB,hL,hps,hown⟩⟩
 ·go_wp2_with fail;go_ret;exact⟨rfl,m1⟩
 ·have HK:=qH (aBe w1 w.heap.size b vl none none ps (kM os) hB hL hps (Vg os) (Og os) (HT.o.on m1.below) hbs m1.size);have DN:=qH m1;clear hB hL hps hown m1 HO;go_wp2_with fail;refine HK.o.mono ?_;rintro e w2 ⟨rfl,m2⟩;have lF:=qH (DN.o.trans' m2 (fun k hk e=>by omega));clear m2 HK DN;go_wp2_with fail;go_ret;exact⟨rfl,lF.o⟩
end Go.Proofs.YtoebidlghdidoaaGreatDoor

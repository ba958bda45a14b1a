/- The walk of the statement on more bits: all ways. Printed by gen_perm.py. -/
import Derived.Test.YtemkikjcjhmlaaaLawPermMore11
import Derived.Test.YtemkikjcjhmlaaaLawPermMore12
import Derived.Test.YtemkikjcjhmlaaaLawPermMore21
import Derived.Test.YtemkikjcjhmlaaaLawPermMore22
namespace Go.Proofs.Ytemkikjcjhmlaaa.Pm
open Go.RowKit
set_option maxRecDepth 100000

theorem permMore_all (id : Int) (wz pg : Bool) (op x : Int) (sn s6 : ByteArray) (sw sb s4 s5 : Int) (sc : Bool) (s7 : Option Addr) (sl sk : Nat) (vn vt : ByteArray) (vw vb : Int) (vp : Option Addr) (vl vk : Nat) (oi oe ow ol of oq : Int) (on od os ov : Value) (pi pp pw pl pf pq : Int) (pn pd ps pv : Value) (w : World) : Calls Try.prog 4 #[.agg #[.int .i64 id, .bool wz, .bool pg], .int .i64 op, .int .i64 x, .agg #[.string sn, .int .i64 sw, .int .i64 sb, .bool sc, .int .i64 s4, .int .i64 s5, .string s6, .slice s7 sl sk], .agg #[.string vn, .int .i64 vw, .int .i64 vb, .string vt, .slice vp vl vk], .agg #[.int .i64 oi, .int .i64 oe, .int .i64 ow, .int .i64 ol, .int .i64 of, .int .i64 oq, on, od, os, ov], .agg #[.int .i64 pi, .int .i64 pp, .int .i64 pw, .int .i64 pl, .int .i64 pf, .int .i64 pq, pn, pd, ps, pv]] w fun e w' => e = .returned (.bool true) ∧ Below w.heap.size w w' := by
  cases hS : slotB id wz op sw sb <;> cases hV : verbB id wz pg op vw vb <;> cases hO : objB id wz pg op ow of <;> cases hT : twoB id wz pg op oi ow pf pw
  · exact more_ffff id wz pg op x sn s6 sw sb s4 s5 sc s7 sl sk vn vt vw vb vp vl vk oi oe ow ol of oq on od os ov pi pp pw pl pf pq pn pd ps pv w hS hV hO hT
  · exact more_ffft id wz pg op x sn s6 sw sb s4 s5 sc s7 sl sk vn vt vw vb vp vl vk oi oe ow ol of oq on od os ov pi pp pw pl pf pq pn pd ps pv w hS hV hO hT
  · exact more_fftf id wz pg op x sn s6 sw sb s4 s5 sc s7 sl sk vn vt vw vb vp vl vk oi oe ow ol of oq on od os ov pi pp pw pl pf pq pn pd ps pv w hS hV hO hT
  · exact more_fftt id wz pg op x sn s6 sw sb s4 s5 sc s7 sl sk vn vt vw vb vp vl vk oi oe ow ol of oq on od os ov pi pp pw pl pf pq pn pd ps pv w hS hV hO hT
  · exact more_ftff id wz pg op x sn s6 sw sb s4 s5 sc s7 sl sk vn vt vw vb vp vl vk oi oe ow ol of oq on od os ov pi pp pw pl pf pq pn pd ps pv w hS hV hO hT
  · exact more_ftft id wz pg op x sn s6 sw sb s4 s5 sc s7 sl sk vn vt vw vb vp vl vk oi oe ow ol of oq on od os ov pi pp pw pl pf pq pn pd ps pv w hS hV hO hT
  · exact more_fttf id wz pg op x sn s6 sw sb s4 s5 sc s7 sl sk vn vt vw vb vp vl vk oi oe ow ol of oq on od os ov pi pp pw pl pf pq pn pd ps pv w hS hV hO hT
  · exact more_fttt id wz pg op x sn s6 sw sb s4 s5 sc s7 sl sk vn vt vw vb vp vl vk oi oe ow ol of oq on od os ov pi pp pw pl pf pq pn pd ps pv w hS hV hO hT
  · exact more_tfff id wz pg op x sn s6 sw sb s4 s5 sc s7 sl sk vn vt vw vb vp vl vk oi oe ow ol of oq on od os ov pi pp pw pl pf pq pn pd ps pv w hS hV hO hT
  · exact more_tfft id wz pg op x sn s6 sw sb s4 s5 sc s7 sl sk vn vt vw vb vp vl vk oi oe ow ol of oq on od os ov pi pp pw pl pf pq pn pd ps pv w hS hV hO hT
  · exact more_tftf id wz pg op x sn s6 sw sb s4 s5 sc s7 sl sk vn vt vw vb vp vl vk oi oe ow ol of oq on od os ov pi pp pw pl pf pq pn pd ps pv w hS hV hO hT
  · exact more_tftt id wz pg op x sn s6 sw sb s4 s5 sc s7 sl sk vn vt vw vb vp vl vk oi oe ow ol of oq on od os ov pi pp pw pl pf pq pn pd ps pv w hS hV hO hT
  · exact more_ttff id wz pg op x sn s6 sw sb s4 s5 sc s7 sl sk vn vt vw vb vp vl vk oi oe ow ol of oq on od os ov pi pp pw pl pf pq pn pd ps pv w hS hV hO hT
  · exact more_ttft id wz pg op x sn s6 sw sb s4 s5 sc s7 sl sk vn vt vw vb vp vl vk oi oe ow ol of oq on od os ov pi pp pw pl pf pq pn pd ps pv w hS hV hO hT
  · exact more_tttf id wz pg op x sn s6 sw sb s4 s5 sc s7 sl sk vn vt vw vb vp vl vk oi oe ow ol of oq on od os ov pi pp pw pl pf pq pn pd ps pv w hS hV hO hT
  · exact more_tttt id wz pg op x sn s6 sw sb s4 s5 sc s7 sl sk vn vt vw vb vp vl vk oi oe ow ol of oq on od os ov pi pp pw pl pf pq pn pd ps pv w hS hV hO hT
end Go.Proofs.Ytemkikjcjhmlaaa.Pm
